/-
  Proved here: what disk.Crash leaves.
-/
import Derived.Test.YtcbjjofckhohjaaPlan
namespace Go.Proofs.Ytcbjjofckhohjaa
open Go.ChangeShapes Go.WideShapes Go.ChangeAt Go.RowKit
set_option linter.unusedVariables false
set_option linter.unusedSimpArgs false
set_option maxRecDepth 20000

/-- Of the first k writes those that are kept. -/
def kept (ps : List (Int × Int × List Int)) (bl : List Bool) : Nat → List (Int × Int × List Int)
  | 0 => []
  | k + 1 => if bl.getD k false = true then kept ps bl k ++ [ps.getD k (0, 0, [])] else kept ps bl k
/-- What a crash leaves. -/
def Dsk.crash (d : Dsk) (bl : List Bool) : Dsk := ⟨d.n, over d.sure (kept d.pend bl d.pend.length), [], false, 0, 0, fun i => decide (i ∈ ([] : List Int))⟩
/-- Behind Crash. -/
def Crashed (w : World) (g : Nat) (d : Dsk) (L : Loc) (N : Nat) (w' : World) : Prop := ∃ L', DAt w' g d L' N ∧ Off (foot g L) w w' ∧ ∀ j, foot g L' j → foot g L j ∨ w.heap.size ≤ j
theorem crash_off {w w1 w2 w3 : World} {g : Nat} {L : Loc} (o1 : Off (· = L.a) w w1) (o2 : Off (· = g) w1 w2) (o3 : Off (· = g) w2 w3) : Off (foot g L) w (w3.setCell ⟨g, 4, none⟩ (.bool false)) :=
  (((o1.mono (F' := foot g L) (fun j hj => Or.inl (Or.inr (Or.inl hj)))).trans o2 (fun j hj => Or.inl (Or.inl hj))).trans o3 (fun j hj => Or.inl (Or.inl hj))).trans (Off.of_setCell (F := (· = g)) _ _ _ rfl) (fun j hj => Or.inl (Or.inl hj))
theorem crash_foot {g m : Nat} {L : Loc} {w w1 w2 : World} (hb : L.b < w.heap.size) (h1 : w.heap.size ≤ w1.heap.size) (h2 : w1.heap.size ≤ w2.heap.size) (hm : w2.heap.size ≤ m) : ∀ j, foot g ((L.forgot w1.heap.size).plan m) j → foot g L j ∨ w.heap.size ≤ j := by
  rintro j (rfl | rfl | rfl | e | e)
  · exact Or.inl (Or.inl rfl)
  · exact Or.inl (Or.inr (Or.inl rfl))
  · exact Or.inr h1
  · simp [Loc.plan, Loc.forgot, Value.ownBlock] at e
  · simp [Loc.plan] at e; exact Or.inr (by omega)
theorem pend_range {w : World} {r n cap g : Nat} {ps : List (Int × Int × List Int)} (h : w.ownsRow g 84 66 (.slice (some ⟨r, 0, none⟩) n cap) ps.length (pcells ps)) (hs : ∀ q ∈ ps, q.2.2.length = 64) (k : Nat) (hk : k < ps.length) : w.rangeAt r (k * 66) (pcell (ps.getD k (0, 0, []))) := by
  have hc := h.cells (g := r) rfl
  have hat : ∀ (ps : List (Int × Int × List Int)), (∀ q ∈ ps, q.2.2.length = 64) → ∀ k, k < ps.length → ∀ j v, (pcell (ps.getD k (0, 0, [])))[j]? = some v → (pcells ps)[k * 66 + j]? = some v := by
    intro ps
    induction ps with
    | nil => intro _ k hk; simp at hk
    | cons q t ih =>
      intro hq k hk j v hv
      have hl : (pcell q).length = 66 := by simp [pcell, hq q (by simp)]
      show (pcell q ++ pcells t)[k * 66 + j]? = some v
      cases k with
      | zero =>
        have : j < (pcell q).length := by
          have := (List.getElem?_eq_some_iff.1 hv).1
          simpa [List.getD] using this
        rw [Nat.zero_mul, Nat.zero_add, List.getElem?_append_left this]
        simpa [List.getD] using hv
      | succ k =>
        rw [List.getElem?_append_right (by rw [hl]; omega), hl, show (k + 1) * 66 + j - 66 = k * 66 + j by omega]
        refine ih (fun r hr => hq r (by simp [hr])) k (by simpa using hk) j v ?_
        simpa [List.getD] using hv
  intro j v hv
  have := hc (k * 66 + j) v (hat ps hs k hk j v hv)
  rw [Addr.add_mid, Nat.zero_add] at this
  exact this

set_option maxHeartbeats 2000000 in
set_option maxRecDepth 20000 in
theorem crash_any {w : World} {g : Nat} {d : Dsk} {L : Loc} {N : Nat} (hd : DAt w g d L N) (k : Value) (bl : List Bool) (hc : Cel w k (bl.map .bool)) (hne : ∀ a n c, k = .slice (some a) n c → ¬ foot g L a.block) :
    Calls Try.prog 22 #[.pointer (some ⟨g, 0, none⟩), k] w fun e w' => e = .returned (.tuple #[]) ∧ Crashed w g (d.crash bl) L N w' := by
  have HPP : Hid (∀ L' w', DAt w' g (d.crash bl) L' N → Off (foot g L) w w' → (∀ j, foot g L' j → foot g L j ∨ w.heap.size ≤ j) → Crashed w g (d.crash bl) L N w') := fun L' w' a b c => ⟨L', a, b, c⟩
  generalize Crashed w g (d.crash bl) L N = PP at HPP ⊢
  obtain ⟨s0, hs0, hs1⟩ := hd.sure
  have hag := hd.ag
  have hz81 := zero84
  have c3 := row_at hd.row 3 L.p rfl
  have HKEEP : Hid (∀ wr, Off (· = L.a) w wr → Row wr g (dcells d L) 76 ∧ FMap wr L.f d.fails) := fun wr o => ⟨hd.row.off o hag.symm, hd.fails.off o (fun m e q => hd.fa (q ▸ e))⟩
  have hlk : ∃ (n : Nat), n = bl.length ∧ (k = .slice none 0 0 ∧ n = 0 ∨ ∃ a cap, k = .slice (some a) n cap ∧ a.block ≠ L.a ∧ ∀ j, j < n → w.cell? (a.add j) = some (.bool (bl.getD j false))) := by
    rcases hc with ⟨rfl, e⟩ | ⟨a, cap, rfl, hcell⟩
    · have : bl = [] := by simpa using e
      exact ⟨0, by rw [this]; rfl, Or.inl ⟨rfl, rfl⟩⟩
    · refine ⟨bl.length, rfl, Or.inr ⟨a, cap, by rw [List.length_map], fun q => hne a _ _ rfl (Or.inr (Or.inl q)), fun j hj => hcell j _ ?_⟩⟩
      rw [List.getElem?_map, List.getElem?_eq_getElem hj]
      simp [List.getD, hj]
  obtain ⟨nk, hnk, hk⟩ := hlk
  have HNK : Hid (nk = bl.length) := hnk
  clear hnk
  have HSTEP : Hid (∀ j, kept d.pend bl (j + 1) = if bl.getD j false = true then kept d.pend bl j ++ [d.pend.getD j (0, 0, [])] else kept d.pend bl j) := fun j => rfl
  have hpend := hd.pend
  rcases hpend.2 with ⟨hp, hn0⟩ | ⟨r, cap, cur, hp, _⟩
  · have e0 : d.pend = [] := List.eq_nil_of_length_eq_zero hn0
    obtain ⟨dk, HDK⟩ : ∃ dk : Dsk, Hid (dk = d) := ⟨d, rfl⟩
    have HC : Hid (∀ w', DAt w' g { (dk.forgot.plan [] 0) with down := false } = DAt w' g (d.crash bl)) := fun w' => by
      rw [HDK.out]; unfold Dsk.forgot Dsk.plan Dsk.crash; rw [e0]; rfl
    rw [hp] at c3
    have sk : ∃ s, SMap w L.a s dk.sure ∧ s ≤ N := ⟨s0, by rw [HDK.out]; exact hs0, by omega⟩
    have rk : Row w g (dcells dk L) 76 := by rw [HDK.out]; exact hd.row
    have fk : FMap w L.f dk.fails := by rw [HDK.out]; exact hd.fails
    have bd : 1 ≤ dk.n ∧ dk.n ≤ 2048 := by rw [HDK.out]; exact hd.small
    have bo : 0 ≤ dk.ops := by rw [HDK.out]; exact hd.opsn
    have bf : Wf dk.fuse := by rw [HDK.out]; exact hd.fusew
    have bdn : Hid (dk.down = d.down) := by show _ = _; rw [HDK.out]
    have O0 := Off.refl (· = L.a) w
    go_enter Try.func22, Try.ntmps22
    go_wp2
    go_loopw [13] (fun c wr => c = .int .i64 0 ∧ wr = w) (fun _ _ => 0)
    case atStart => exact ⟨rfl, rfl⟩
    case round =>
      obtain ⟨rfl, rfl⟩ := hrel
      go_wp2_with (first
          | (go_at_call 37; refine (forget_any (L := L) (d := dk) (N := N) rk sk fk hd.fa hd.big bd bo bf).mono ?_; rintro e w5 ⟨rfl, D5, O5⟩)
          | (go_at_call 18; refine (plan_any D5 (.slice none 0 0) [] (Or.inl ⟨rfl, rfl⟩) (fun a n c e => (by cases e)) (fun z hz => (by cases hz)) (by simp) 0 (wf_of (by omega) (by omega))).mono ?_; rintro e w6 ⟨rfl, m6, hm6, D6, O6⟩
             have c46 := row_at D6.row 4 (.bool dk.down) rfl
             have f46 := row_frozen D6.row 4
             have D7 := D6.setDown false))
      have hp := HPP.out _ _ (by rw [← HC.out]; exact D7) (crash_off O0 O5 O6) (crash_foot (hd.lt (k := L.b) (Or.inr (Or.inr (Or.inl rfl)))) (Nat.le_refl _) O5.size hm6)
      first
        | (go_end0; exact ⟨rfl, hp⟩)
        | (refine bodyPost_ret (results_none rfl _ _ _) rfl ?_; exact ⟨rfl, hp⟩)
  · obtain ⟨n, HN⟩ : ∃ n, Hid (d.pend.length = n) := ⟨_, rfl⟩
    rw [HN.out] at hp hs1 hpend
    rw [hp] at c3 hpend
    have HR : Hid (∀ wr, Off (· = L.a) w wr → ∀ j, j < n → wr.rangeAt r (j * 66) (pcell (d.pend.getD j (0, 0, [])))) := fun wr o j hj => by
      refine pend_range (g := g + 1) (n := n) (cap := cap) ?_ (fun q hq => (hd.okp q hq).2.2.2.2.1) j (by rw [HN.out]; exact hj)
      rw [HN.out]
      exact ownsRow_kept hpend fun k e hl => o.block k hl (fun q => hd.pa (by rw [hp, ← q]; exact e))
    have HQ : Hid (∀ j, j < n → ∃ q1 q2 s, d.pend.getD j (0, 0, []) = (q1, q2, s) ∧ Wf q1 ∧ Wf q2 ∧ Sec s) := fun j hj => by
      have hm : d.pend.getD j (0, 0, []) ∈ d.pend := by
        have : j < d.pend.length := by rw [HN.out]; exact hj
        simp only [List.getD]; rw [List.getElem?_eq_getElem this]; exact List.getElem_mem this
      have hok := hd.okp _ hm
      have := hd.small
      generalize d.pend.getD j (0, 0, []) = q at hok ⊢
      obtain ⟨q1, q2, s⟩ := q
      obtain ⟨h1, h2, h3, h4, h5⟩ := hok
      simp only at h1 h2 h3 h4 h5
      exact ⟨q1, q2, s, rfl, wf_of (by omega) (by omega), wf_of (by omega) (by omega), h5⟩
    have HEND : Hid (∀ wr, SMap wr L.a (s0 + n) (over d.sure (kept d.pend bl n)) → ∃ dk : Dsk, (∃ s, SMap wr L.a s dk.sure ∧ s ≤ N) ∧ dcells dk L = dcells d L ∧ dk.fails = d.fails ∧ (1 ≤ dk.n ∧ dk.n ≤ 2048) ∧ 0 ≤ dk.ops ∧ Wf dk.fuse ∧ dk.down = d.down ∧ ∀ w' L', DAt w' g { (dk.forgot.plan [] 0) with down := false } L' N → DAt w' g (d.crash bl) L' N) := fun wr hsm =>
      ⟨{ d with sure := over d.sure (kept d.pend bl n) }, ⟨s0 + n, hsm, by omega⟩, rfl, rfl, hd.small, hd.opsn, hd.fusew, rfl, fun w' L' h => by unfold Dsk.crash; rw [HN.out]; exact h⟩
    have O0 := Off.refl (· = L.a) w
    have hbL := hd.lt (k := L.b) (Or.inr (Or.inr (Or.inl rfl)))
    have hfa := hd.fa
    have hbig := hd.big
    have hgl := hd.row.lt
    have hb64 : s0 + n < 1000000000000 := by omega
    have hn64 : (n : Int) < 9223372036854775807 := by omega
    clear hpend hp hd hs1 HN hc hne
    rcases hk with ⟨rfl, rfl⟩ | ⟨a, kcap, rfl, hka, hkc⟩
    · go_enter Try.func22, Try.ntmps22
      go_wp2
      go_loopw [13] (fun c wr => ∃ j : Nat, c = .int .i64 j ∧ j ≤ n ∧ SMap wr L.a (s0 + j) (over d.sure (kept d.pend bl j)) ∧ Off (· = L.a) w wr) (fun c _ => n - (intOf c).toNat)
      case atStart => exact ⟨0, rfl, Nat.zero_le _, hs0, O0⟩
      case round =>
        clear O0 hs0
        obtain ⟨j, rfl, hj, Sk, Ok⟩ := hrel
        by_cases hjn : j < n
        · have hr := HR.out wr Ok j hjn
          obtain ⟨q1, q2, s, hq, wq1, wq2, hsec⟩ := HQ.out j hjn
          rw [hq] at hr
          have hst := HSTEP.out j
          rw [hq] at hst
          have hsl := hsec.1
          have hpl : Hid ((pcell (q1, q2, s)).length = 66) := pcell_length _ _ _ hsl
          have hj64 : (j : Int) < 9223372036854775807 := by omega
          have y0 : Row (wr.alloc (.cells (wcells 0 0 (zs 64)) 84)) wr.heap.size (wcells 0 0 (zs 64)) 84 := Row.new _ _ _
          have rY3 : Row ((wr.alloc (.cells (wcells 0 0 (zs 64)) 84)).setRow wr.heap.size (wcells q1 q2 s)) wr.heap.size (wcells q1 q2 s) 84 := y0.set _
          have hal := Sk.lt
          have O3 : Off (· = L.a) w ((wr.alloc (.cells (wcells 0 0 (zs 64)) 84)).setRow wr.heap.size (wcells q1 q2 s)) :=
            (Ok.trans (Off.of_below (F := fun _ => False) ((Below.refl _ _).alloc (Nat.le_refl _) _)) (fun _ h => h.elim)).trans (Off.of_setRow (F := (· = wr.heap.size)) _ _ _ rfl) (fun j hj => Or.inr (by have := Ok.size; omega))
          have S3 : SMap ((wr.alloc (.cells (wcells 0 0 (zs 64)) 84)).setRow wr.heap.size (wcells q1 q2 s)) L.a (s0 + j) (over d.sure (kept d.pend bl j)) := Sk.kept (by rw [setRow_other _ _ _ _ (by omega), Below.heap_alloc _ _ _ hal])
          obtain ⟨row3, _⟩ := HKEEP.out _ O3
          · have hbf : bl.getD j false = false := by
              simp only [List.getD]; rw [List.getElem?_eq_none (by have := HNK.out; omega)]; rfl
            rw [hbf, if_neg (by decide)] at hst
            have hj0 : ¬ (j : Int) < 0 := by omega
            go_wp2_with (first
              | (refine wpList_load_mid rfl 84 (.tmp 16) rfl r (j * 66) (by rfl) (pcell (q1, q2, s)) _ hr Try.underlying84 rfl (by rw [hpl.out]; exact size84) ?_)
              | (refine store_cells rfl 84 (.tmp 5) (.tmp 17) rfl wr.heap.size (wcells q1 q2 s) rfl rfl 84 _ y0 66 size84 (wcells_size _ _ _ (zs_length 64)) (wcells_size _ _ _ hsl) (wcells_one _ _ _) ?_))
            go_roundw
            case rel => exact ⟨j + 1, by go_num, by omega, by rw [hst]; exact (S3.mono (by omega)), O3⟩
            case measure => simp [intOf]; omega
        · have e : j = n := by omega
          subst e
          obtain ⟨row3, fl3⟩ := HKEEP.out _ Ok
          obtain ⟨dk, sk, ed, ef, bd, bo, bf, bdn, HC⟩ := HEND.out wr Sk
          have rk : Row wr g (dcells dk L) 76 := by rw [ed]; exact row3
          have fk : FMap wr L.f dk.fails := by rw [ef]; exact fl3
          have HC' := show Hid _ from HC
          clear HC ed ef
          go_wp2_with (first
            | (go_at_call 37; refine (forget_any (L := L) (d := dk) (N := N) rk sk fk hfa hbig bd bo bf).mono ?_; rintro e w5 ⟨rfl, D5, O5⟩)
            | (go_at_call 18; refine (plan_any D5 (.slice none 0 0) [] (Or.inl ⟨rfl, rfl⟩) (fun a n c e => (by cases e)) (fun z hz => (by cases hz)) (by simp) 0 (wf_of (by omega) (by omega))).mono ?_; rintro e w6 ⟨rfl, m6, hm6, D6, O6⟩
               have c46 := row_at D6.row 4 (.bool dk.down) rfl
               have f46 := row_frozen D6.row 4
               have D7 := D6.setDown false))
          have hp := HPP.out _ _ (HC'.out _ _ D7) (crash_off Ok O5 O6) (crash_foot hbL Ok.size O5.size hm6)
          first
            | (go_end0; exact ⟨rfl, hp⟩)
            | (refine bodyPost_ret (results_none rfl _ _ _) rfl ?_; exact ⟨rfl, hp⟩)
    · go_enter Try.func22, Try.ntmps22
      go_wp2
      go_loopw [13] (fun c wr => ∃ j : Nat, c = .int .i64 j ∧ j ≤ n ∧ SMap wr L.a (s0 + j) (over d.sure (kept d.pend bl j)) ∧ Off (· = L.a) w wr) (fun c _ => n - (intOf c).toNat)
      case atStart => exact ⟨0, rfl, Nat.zero_le _, hs0, O0⟩
      case round =>
        clear O0 hs0
        obtain ⟨j, rfl, hj, Sk, Ok⟩ := hrel
        by_cases hjn : j < n
        · have hr := HR.out wr Ok j hjn
          obtain ⟨q1, q2, s, hq, wq1, wq2, hsec⟩ := HQ.out j hjn
          rw [hq] at hr
          have hst := HSTEP.out j
          rw [hq] at hst
          have hsl := hsec.1
          have hpl : Hid ((pcell (q1, q2, s)).length = 66) := pcell_length _ _ _ hsl
          have hj64 : (j : Int) < 9223372036854775807 := by omega
          have y0 : Row (wr.alloc (.cells (wcells 0 0 (zs 64)) 84)) wr.heap.size (wcells 0 0 (zs 64)) 84 := Row.new _ _ _
          have rY3 : Row ((wr.alloc (.cells (wcells 0 0 (zs 64)) 84)).setRow wr.heap.size (wcells q1 q2 s)) wr.heap.size (wcells q1 q2 s) 84 := y0.set _
          have hal := Sk.lt
          have O3 : Off (· = L.a) w ((wr.alloc (.cells (wcells 0 0 (zs 64)) 84)).setRow wr.heap.size (wcells q1 q2 s)) :=
            (Ok.trans (Off.of_below (F := fun _ => False) ((Below.refl _ _).alloc (Nat.le_refl _) _)) (fun _ h => h.elim)).trans (Off.of_setRow (F := (· = wr.heap.size)) _ _ _ rfl) (fun j hj => Or.inr (by have := Ok.size; omega))
          have S3 : SMap ((wr.alloc (.cells (wcells 0 0 (zs 64)) 84)).setRow wr.heap.size (wcells q1 q2 s)) L.a (s0 + j) (over d.sure (kept d.pend bl j)) := Sk.kept (by rw [setRow_other _ _ _ _ (by omega), Below.heap_alloc _ _ _ hal])
          obtain ⟨row3, _⟩ := HKEEP.out _ O3
          by_cases hjk : j < nk
          · have hcel := cell_off (hkc j hjk) O3 (by rw [add_block]; exact hka)
            have hjk' : (j : Int) < (nk : Int) := by omega
            by_cases hb : bl.getD j false = true
            · rw [if_pos hb] at hst
              rw [hb] at hcel
              go_wp2_with (first
                | (refine wpList_load_mid rfl 84 (.tmp 16) rfl r (j * 66) (by rfl) (pcell (q1, q2, s)) _ hr Try.underlying84 rfl (by rw [hpl.out]; exact size84) ?_)
                | (refine store_cells rfl 84 (.tmp 5) (.tmp 17) rfl wr.heap.size (wcells q1 q2 s) rfl rfl 84 _ y0 66 size84 (wcells_size _ _ _ (zs_length 64)) (wcells_size _ _ _ hsl) (wcells_one _ _ _) ?_))
              generalize (wr.alloc (.cells (wcells 0 0 (zs 64)) 84)).setRow wr.heap.size (wcells q1 q2 s) = w3 at rY3 O3 S3 row3 hcel ⊢
              have hYL : wr.heap.size ≠ L.a := by omega
              generalize wr.heap.size = Y at rY3 hYL ⊢
              obtain ⟨w4, hrun4, m4, g4, z4⟩ := (show SMap w3.drew L.a (s0 + j) (over d.sure (kept d.pend bl j)) from S3).store (by unfold maxLen; omega) wq1 wq2 hsec
              have g4' : w3.grownBy w4 (some L.a) := ⟨g4.os, g4.tape, g4.output, g4.size, g4.block⟩
              have O4 : Off (· = L.a) w w4 := O3.trans (Off.of_grown (F := (· = L.a)) g4' (fun q hq => by cases hq; rfl)) (fun j hj => Or.inl hj)
              have row4 : Row w4 g (dcells d L) 76 := (HKEEP.out _ O4).1
              have y4 : Row w4 Y (wcells q1 q2 s) 84 := by
                have := rY3
                unfold Row at this ⊢
                rw [g4'.block Y rY3.lt (fun q => hYL (by cases q; rfl))]; exact this
              have m4' : SMap w4 L.a (s0 + (j + 1)) (over d.sure (kept d.pend bl (j + 1))) := by
                rw [hst, over_append]; exact m4
              clear z4 g4 m4 hst
              unfold pk at hrun4
              refine wp_region_held_drew (S := fun w' => Row w' g (dcells d L) 76 ∧ Row w' Y (wcells q1 q2 s) 84) (by kernel_rfl) ⟨row3, rY3⟩ fun hS => ?_
              refine wpAnyH_take (i := 0) (v := .pointer (some ⟨g, 0, none⟩)) rfl (by kernel_rfl) (by kernel_rfl) (by kernel_rfl) (fun _ _ _ h => h) (Or.inl ⟨by rfl, fun w _ => by rfl⟩) hS ?_
              try simp only [Act.put, List.getElem_toArray, List.getElem_cons_zero, List.getElem_cons_succ, List.setIfInBounds_toArray, List.set_cons_zero, List.set_cons_succ]
              refine wpAnyH_take (i := 1) (v := .pointer (some ⟨g, 0, none⟩)) rfl (by kernel_rfl) (by kernel_rfl) (by kernel_rfl) (fun _ _ _ h => h) (Or.inl ⟨by rfl, fun w _ => by go_simp⟩) hS ?_
              try simp only [Act.put, List.getElem_toArray, List.getElem_cons_zero, List.getElem_cons_succ, List.setIfInBounds_toArray, List.set_cons_zero, List.set_cons_succ]
              refine wpAnyH_take (i := 2) (v := .pointer (some ⟨g, 1, none⟩)) rfl (by kernel_rfl) (by kernel_rfl) (by kernel_rfl) (fun _ _ _ h => h) (Or.inl ⟨by rfl, fun w _ => by go_simp⟩) hS ?_
              try simp only [Act.put, List.getElem_toArray, List.getElem_cons_zero, List.getElem_cons_succ, List.setIfInBounds_toArray, List.set_cons_zero, List.set_cons_succ]
              refine wpAnyH_take (i := 3) (v := .map (some L.a)) rfl (by kernel_rfl) (by kernel_rfl) (by kernel_rfl) (fun _ _ _ h => h) (Or.inl ⟨by rfl, fun w h => by have c := (row_at h.1 1 (.map (some L.a)) rfl); go_simp⟩) hS ?_
              try simp only [Act.put, List.getElem_toArray, List.getElem_cons_zero, List.getElem_cons_succ, List.setIfInBounds_toArray, List.set_cons_zero, List.set_cons_succ]
              refine wpAnyH_take (i := 4) (v := .pointer (some ⟨Y, 0, none⟩)) rfl (by kernel_rfl) (by kernel_rfl) (by kernel_rfl) (fun _ _ _ h => h) (Or.inl ⟨by rfl, fun w _ => by go_simp⟩) hS ?_
              try simp only [Act.put, List.getElem_toArray, List.getElem_cons_zero, List.getElem_cons_succ, List.setIfInBounds_toArray, List.set_cons_zero, List.set_cons_succ]
              refine wpAnyH_take (i := 5) (v := .agg #[.int .i64 q1, .int .i64 q2]) rfl (by kernel_rfl) (by kernel_rfl) (by kernel_rfl) (fun _ _ _ h => h) (yieldsIf_load_mid (by rfl) 79 (.tmp 32) rfl Y 0 rfl [.int .i64 q1, .int .i64 q2] _ (fun w h => range_key h.2) Try.underlying79 rfl size79) hS ?_
              try simp only [Act.put, List.getElem_toArray, List.getElem_cons_zero, List.getElem_cons_succ, List.setIfInBounds_toArray, List.set_cons_zero, List.set_cons_succ]
              refine wpAnyH_take (i := 6) (v := .pointer (some ⟨Y, 2, none⟩)) rfl (by kernel_rfl) (by kernel_rfl) (by kernel_rfl) (fun _ _ _ h => h) (Or.inl ⟨by rfl, fun w _ => by go_simp⟩) hS ?_
              try simp only [Act.put, List.getElem_toArray, List.getElem_cons_zero, List.getElem_cons_succ, List.setIfInBounds_toArray, List.set_cons_zero, List.set_cons_succ]
              refine wpAnyH_take (i := 7) (v := .agg (bs s)) rfl (by kernel_rfl) (by kernel_rfl) (by kernel_rfl) (fun _ _ _ h => h) (yieldsIf_load_mid (by rfl) 81 (.tmp 34) rfl Y 2 rfl (s.map (Value.int .u8)) _ (fun w h => range_sec h.2) Try.underlying81 rfl (by rw [List.length_map, hsl]; exact size81)) hS ?_
              try simp only [Act.put, List.getElem_toArray, List.getElem_cons_zero, List.getElem_cons_succ, List.setIfInBounds_toArray, List.set_cons_zero, List.set_cons_succ]
              refine wpAnyH_ready (rs := [8]) (by kernel_rfl) (by simp) ?_
              refine AllReadyH.cons rfl (fun K hK => step_of rfl (wp_update 72 (.tmp 31) (.tmp 33) (.tmp 35) rfl _ _ _ rfl rfl rfl w4 hrun4 (hK.out _ _ ⟨row4, y4⟩ fun hS => ?_))) AllReadyH.nil
              try simp only [Act.put, List.getElem_toArray, List.getElem_cons_zero, List.getElem_cons_succ, List.setIfInBounds_toArray, List.set_cons_zero, List.set_cons_succ]
              refine wpAnyH_done (by kernel_rfl) ?_ _
              go_wp2
              go_roundw
              case rel => exact ⟨j + 1, by go_num, by omega, m4', O4⟩
              case measure => simp [intOf]; omega
            · have hb' : bl.getD j false = false := by simpa using hb
              rw [if_neg hb] at hst
              rw [hb'] at hcel
              go_wp2_with (first
                | (refine wpList_load_mid rfl 84 (.tmp 16) rfl r (j * 66) (by rfl) (pcell (q1, q2, s)) _ hr Try.underlying84 rfl (by rw [hpl.out]; exact size84) ?_)
                | (refine store_cells rfl 84 (.tmp 5) (.tmp 17) rfl wr.heap.size (wcells q1 q2 s) rfl rfl 84 _ y0 66 size84 (wcells_size _ _ _ (zs_length 64)) (wcells_size _ _ _ hsl) (wcells_one _ _ _) ?_))
              go_roundw
              case rel => exact ⟨j + 1, by go_num, by omega, by rw [hst]; exact (S3.mono (by omega)), O3⟩
              case measure => simp [intOf]; omega
          · have hbf : bl.getD j false = false := by
              simp only [List.getD]; rw [List.getElem?_eq_none (by have := HNK.out; omega)]; rfl
            rw [hbf, if_neg (by decide)] at hst
            have hjk' : ¬ (j : Int) < (nk : Int) := by omega
            go_wp2_with (first
              | (refine wpList_load_mid rfl 84 (.tmp 16) rfl r (j * 66) (by rfl) (pcell (q1, q2, s)) _ hr Try.underlying84 rfl (by rw [hpl.out]; exact size84) ?_)
              | (refine store_cells rfl 84 (.tmp 5) (.tmp 17) rfl wr.heap.size (wcells q1 q2 s) rfl rfl 84 _ y0 66 size84 (wcells_size _ _ _ (zs_length 64)) (wcells_size _ _ _ hsl) (wcells_one _ _ _) ?_))
            go_roundw
            case rel => exact ⟨j + 1, by go_num, by omega, by rw [hst]; exact (S3.mono (by omega)), O3⟩
            case measure => simp [intOf]; omega
        · have e : j = n := by omega
          subst e
          obtain ⟨row3, fl3⟩ := HKEEP.out _ Ok
          obtain ⟨dk, sk, ed, ef, bd, bo, bf, bdn, HC⟩ := HEND.out wr Sk
          have rk : Row wr g (dcells dk L) 76 := by rw [ed]; exact row3
          have fk : FMap wr L.f dk.fails := by rw [ef]; exact fl3
          have HC' := show Hid _ from HC
          clear HC ed ef
          go_wp2_with (first
            | (go_at_call 37; refine (forget_any (L := L) (d := dk) (N := N) rk sk fk hfa hbig bd bo bf).mono ?_; rintro e w5 ⟨rfl, D5, O5⟩)
            | (go_at_call 18; refine (plan_any D5 (.slice none 0 0) [] (Or.inl ⟨rfl, rfl⟩) (fun a n c e => (by cases e)) (fun z hz => (by cases hz)) (by simp) 0 (wf_of (by omega) (by omega))).mono ?_; rintro e w6 ⟨rfl, m6, hm6, D6, O6⟩
               have c46 := row_at D6.row 4 (.bool dk.down) rfl
               have f46 := row_frozen D6.row 4
               have D7 := D6.setDown false))
          have hp := HPP.out _ _ (HC'.out _ _ D7) (crash_off Ok O5 O6) (crash_foot hbL Ok.size O5.size hm6)
          first
            | (go_end0; exact ⟨rfl, hp⟩)
            | (refine bodyPost_ret (results_none rfl _ _ _) rfl ?_; exact ⟨rfl, hp⟩)
end Go.Proofs.Ytcbjjofckhohjaa
