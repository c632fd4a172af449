/-
  Proved: for every byte and every list of calls of a disk the Go function varvelaw05.DiskFuse returns true and leaves its arguments as they were; no condition.
-/
import Derived.Test.YtkgmhliocfbdfaaScr
namespace Go.Proofs.Ytkgmhliocfbdfaa.diskFuse
open Go.ChangeShapes Go.WideShapes Go.ChangeAt Go.RowKit
open Go.Deep
set_option linter.unusedVariables false
set_option linter.unusedSimpArgs false

theorem own : ownKnob Try.prog.godebug = none := by kernel_rfl

/-- A disk with a fuse alone, its operations counted. -/
structure Fus (d : Dsk) (n : Int) : Prop where
  size : d.n = 8
  fuse : d.fuse = n
  fails : ∀ i, d.fails i = false
  ops : 0 ≤ d.ops
  on : d.down = false → d.ops + 1 ≤ n
  lim : d.ops ≤ n
theorem count_fus {d : Dsk} {n : Int} (h : Fus d n) (hd : d.down = false) : (count d).1 = (if d.ops + 1 = n then 4 else 0) ∧ (count d).2.ops = d.ops + 1 ∧ (count d).2.down = decide (d.ops + 1 = n) ∧ Fus (count d).2 n := by
  have hon := h.on hd
  unfold count
  rw [h.fuse]
  by_cases e : d.ops + 1 = n
  · rw [if_pos e, if_pos e]
    exact ⟨rfl, rfl, by simp [e], ⟨h.size, rfl, h.fails, by have := h.ops; show 0 ≤ d.ops + 1; omega, fun q => (by cases q), by show d.ops + 1 ≤ n; omega⟩⟩
  · rw [if_neg e, if_neg e, h.fails]
    simp only [Bool.false_eq_true, if_false]
    exact ⟨trivial, trivial, by rw [hd, decide_eq_false e], ⟨h.size, rfl, h.fails, by have := h.ops; show 0 ≤ d.ops + 1; omega, fun q => (by show d.ops + 1 + 1 ≤ n; omega), by show d.ops + 1 ≤ n; omega⟩⟩
theorem fus_wrote {d : Dsk} {n : Int} (h : Fus d n) (b : Int) (x : List Int) : Fus (d.wrote b x 4) n := ⟨h.size, h.fuse, h.fails, h.ops, h.on, h.lim⟩
theorem fus_synced {d : Dsk} {n : Int} (h : Fus d n) : Fus d.synced n := ⟨h.size, h.fuse, h.fails, h.ops, h.on, h.lim⟩
/-- What an operation does with such a disk. -/
theorem act_fus {d : Dsk} {n : Int} (h : Fus d n) (c : Call) (h0 : 0 ≤ c.kd) (h2 : c.kd ≤ 2) (hb : c.kd < 2 → 0 ≤ c.b ∧ c.b ≤ 7) :
    (act d c).2.1 = (if d.down then 4 else if d.ops + 1 = n then 4 else 0) ∧ (act d c).2.2.ops = (if d.down then d.ops else d.ops + 1) ∧ (act d c).2.2.down = (if d.down then true else decide (d.ops + 1 = n)) ∧ Fus (act d c).2.2 n := by
  have hsz := h.size
  have hask : c.kd < 2 → (ask d c.b) = if d.down then (4, d) else count d := fun q => by
    unfold ask
    by_cases hd : d.down = true
    · rw [if_pos hd, if_pos hd]
    · rw [if_neg hd, if_neg hd, if_pos ⟨(hb q).1, by rw [hsz]; have := (hb q).2; omega⟩]
  unfold act
  by_cases hd : d.down = true
  · simp only [hd, if_true]
    have k : c.kd = 0 ∨ c.kd = 1 ∨ c.kd = 2 := by omega
    rcases k with k | k | k
    · rw [if_pos k]
      have := hask (by omega)
      rw [if_pos hd] at this
      unfold read; rw [this]
      exact ⟨rfl, rfl, hd, h⟩
    · rw [if_neg (by omega), if_pos k]
      have := hask (by omega)
      rw [if_pos hd] at this
      unfold writ; rw [this]
      exact ⟨rfl, rfl, hd, h⟩
    · rw [if_neg (by omega), if_neg (by omega), if_pos k]
      unfold sync; rw [if_pos hd]
      exact ⟨rfl, rfl, hd, h⟩
  · have hd' : d.down = false := by simpa using hd
    obtain ⟨c1, c2, c3, c4⟩ := count_fus h hd'
    simp only [hd', Bool.false_eq_true, if_false]
    have k : c.kd = 0 ∨ c.kd = 1 ∨ c.kd = 2 := by omega
    rcases k with k | k | k
    · rw [if_pos k]
      have := hask (by omega)
      rw [if_neg hd] at this
      unfold read; rw [this]
      by_cases e : (count d).1 = 0
      · rw [if_pos e]
        exact ⟨by rw [← c1]; exact e.symm, c2, c3, c4⟩
      · rw [if_neg e]
        exact ⟨c1, c2, c3, c4⟩
    · rw [if_neg (by omega), if_pos k]
      have := hask (by omega)
      rw [if_neg hd] at this
      unfold writ; rw [this]
      by_cases e : (count d).1 = 0
      · rw [if_pos e]
        exact ⟨by rw [← c1]; exact e.symm, c2, c3, fus_wrote c4 _ _⟩
      · rw [if_neg e]
        exact ⟨c1, c2, c3, c4⟩
    · rw [if_neg (by omega), if_neg (by omega), if_pos k]
      unfold sync; rw [if_neg hd]
      by_cases e : (count d).1 = 0
      · rw [if_pos e]
        exact ⟨by rw [← c1]; exact e.symm, c2, c3, fus_synced c4⟩
      · rw [if_neg e]
        exact ⟨c1, c2, c3, c4⟩

theorem crash_sync (d : Dsk) (bl : List Bool) : (sync (d.crash bl)).1 = 0 := by
  have hc : count (d.crash bl) = (0, { d.crash bl with ops := 1 }) := by
    unfold count
    rw [if_neg (by simp [Dsk.crash]), if_neg (by simp [Dsk.crash])]
    simp [Dsk.crash]
  have e : sync (d.crash bl) = (0, ({ d.crash bl with ops := 1 } : Dsk).synced) := by
    unfold sync
    rw [if_neg (by simp [Dsk.crash]), hc]; rfl
  rw [e]

set_option maxHeartbeats 20000000 in
set_option maxRecDepth 20000 in
theorem walk (w : World) (fz : Int) (v : Value) (cs : List Call) (wf : (Lit.int .u8 fz).wf = true) (hs : Script w v cs) :
    Calls Try.prog 6 #[.int .u8 fz, v] w fun e w' => e = .returned (.bool true) ∧ Below w.heap.size w w' := by
  have hf := bounds_u8 wf
  have hnew := new_some 8 (by omega) (by omega) w
  obtain ⟨m, HM⟩ : ∃ m : Int, Hid (fz % 40 = m) := ⟨_, rfl⟩
  have hm : 0 ≤ m ∧ m < 40 := by rw [← HM.out]; omega
  have e1 : fz.tmod 40 = m := by rw [← HM.out, Int.tmod_eq_emod_of_nonneg hf.1]
  have e1' : fz % 40 = m := HM.out
  have v1 : IntKind.u8.wrap m = m := by rw [IntKind.wrap_u8]; omega
  have v2 : IntKind.i64.wrap m = m := by rw [IntKind.wrap_i64]; omega
  have v3 : IntKind.i64.wrap (1 + m) = 1 + m := by rw [IntKind.wrap_i64]; omega
  have hz33 := zero33
  have hz35 := zero35
  have hm0 := hm.1
  have hm1 := hm.2
  clear hm
  obtain ⟨G, HG⟩ : ∃ G, Hid (w.heap.size + 2 = G) := ⟨_, rfl⟩
  rw [HG.out] at hnew
  have HNF : Hid (∀ j, foot G (Loc.new w.heap.size) j → w.heap.size ≤ j) := fun j hj => by rw [← HG.out] at hj; exact new_foot _ _ hj
  rcases hs with ⟨rfl, rfl⟩ | ⟨a, cap, rfl, hlen, hcs⟩
  · go_enter Try.func6, Try.ntmps6
    go_wp2_with (first
      | (go_at_call 9; refine hnew.mono ?_; rintro e w1 ⟨rfl, D1, B1⟩)
      | (go_at_call 31; refine (plan_any D1 (.slice none 0 0) [] (Or.inl ⟨rfl, rfl⟩) (fun a n c e => (by cases e)) (fun z hz => (by cases hz)) (by simp) (1 + m) (wf_of (by omega) (by omega))).mono ?_; rintro e w2 ⟨rfl, m2, hm2, D2, O2⟩))
    have B2 : Below w.heap.size w w2 := B1.trans (O2.below B1.size (fun k hk => by rw [hk, ← HG.out]; omega))
    have F2 : ∀ j, foot G ((Loc.new w.heap.size).plan m2) j → w.heap.size ≤ j := by
      rintro j (q | q | q | q | q)
      · exact HNF.out j (Or.inl q)
      · exact HNF.out j (Or.inr (Or.inl q))
      · exact HNF.out j (Or.inr (Or.inr (Or.inl q)))
      · exact HNF.out j (Or.inr (Or.inr (Or.inr (Or.inl q))))
      · simp [Loc.plan] at q; have := B1.size; omega
    have U2 : Fus ((Dsk.new 8).plan [] (1 + m)) (1 + m) := ⟨rfl, rfl, fun i => by simp [Dsk.plan], by simp [Dsk.plan], fun _ => (by show (0 : Int) + 1 ≤ 1 + m; omega), by show (0 : Int) ≤ 1 + m; omega⟩
    go_loopw [7] (fun c wr => ∃ (k : Nat) (d : Dsk) (L : Loc), c = .int .i64 k ∧ k ≤ 60 ∧ Hid (Fus d (1 + m)) ∧ DAt wr G d L (4 * k) ∧ Below w.heap.size w wr ∧ Hid (∀ j, foot G L j → w.heap.size ≤ j)) (fun c _ => 60 - (intOf c).toNat)
    case atStart => exact ⟨0, _, _, rfl, by omega, U2, D2, B2, F2⟩
    case round =>
      clear B2 F2 U2 D2 O2 D1 B1 hm2
      obtain ⟨k, d, L, rfl, hk, HU, D, rb, HF⟩ := hrel
      have hk0 : ¬ (k : Int) < 0 := by omega
      have hcd : (d.crash []).down = false := rfl
      have hco : (d.crash []).ops = 0 := rfl
      have hcs' := crash_sync d []
      go_wp2_with (first
        | (go_at_call 28; refine (crash_any D (.slice none 0 0) [] (Or.inl ⟨rfl, rfl⟩) (fun a n c e => (by cases e))).mono ?_; rintro e w5 ⟨rfl, L5, D5, O5, F5⟩)
        | (go_at_call 18; refine (down_any D5).mono ?_; rw [hcd]; rintro e w' ⟨rfl, rfl⟩)
        | (go_at_call 19; refine (ops_any D5).mono ?_; rw [hco]; rintro e w' ⟨rfl, rfl⟩)
        | (go_at_call 27; refine (sync_any D5 (by rw [hco]; omega)).mono ?_; rw [hcs']; rintro e w6 ⟨rfl, L6, D6, O6, F6⟩
           have B5 := rb.trans (O5.below rb.size HF.out)
           have B6 : Below w.heap.size w w6 := B5.trans (O6.below B5.size (fun k hk => (by
             rcases F5 k hk with q | q
             · exact HF.out k q
             · exact Nat.le_trans rb.size q))))
        | (go_at_call 10; refine (awake_any _).mono ?_; rintro e w7 ⟨rfl, b7⟩))
      go_ret
      exact ⟨rfl, B6.trans (b7.mono B6.size)⟩
  · have HCS : Hid _ := hcs
    clear hcs
    obtain ⟨n, HN⟩ : ∃ n, Hid (cs.length = n) := ⟨_, rfl⟩
    rw [HN.out] at HCS hlen ⊢
    go_enter Try.func6, Try.ntmps6
    go_wp2_with (first
      | (go_at_call 9; refine hnew.mono ?_; rintro e w1 ⟨rfl, D1, B1⟩)
      | (go_at_call 31; refine (plan_any D1 (.slice none 0 0) [] (Or.inl ⟨rfl, rfl⟩) (fun a n c e => (by cases e)) (fun z hz => (by cases hz)) (by simp) (1 + m) (wf_of (by omega) (by omega))).mono ?_; rintro e w2 ⟨rfl, m2, hm2, D2, O2⟩))
    have B2 : Below w.heap.size w w2 := B1.trans (O2.below B1.size (fun k hk => by rw [hk, ← HG.out]; omega))
    have F2 : ∀ j, foot G ((Loc.new w.heap.size).plan m2) j → w.heap.size ≤ j := by
      rintro j (q | q | q | q | q)
      · exact HNF.out j (Or.inl q)
      · exact HNF.out j (Or.inr (Or.inl q))
      · exact HNF.out j (Or.inr (Or.inr (Or.inl q)))
      · exact HNF.out j (Or.inr (Or.inr (Or.inr (Or.inl q))))
      · simp [Loc.plan] at q; have := B1.size; omega
    have U2 : Fus ((Dsk.new 8).plan [] (1 + m)) (1 + m) := ⟨rfl, rfl, fun i => by simp [Dsk.plan], by simp [Dsk.plan], fun _ => (by show (0 : Int) + 1 ≤ 1 + m; omega), by show (0 : Int) ≤ 1 + m; omega⟩
    go_loopw [7] (fun c wr => ∃ (k : Nat) (d : Dsk) (L : Loc), c = .int .i64 k ∧ k ≤ 60 ∧ Hid (Fus d (1 + m)) ∧ DAt wr G d L (4 * k) ∧ Below w.heap.size w wr ∧ Hid (∀ j, foot G L j → w.heap.size ≤ j)) (fun c _ => 60 - (intOf c).toNat)
    case atStart => exact ⟨0, _, _, rfl, by omega, U2, D2, B2, F2⟩
    case round =>
      clear B2 F2 U2 D2 O2 D1 B1 hm2
      obtain ⟨k, d, L, rfl, hk, HU, D, rb, HF⟩ := hrel
      by_cases hkl : k < n
      · have hkl' : (k : Int) < (n : Int) := by omega
        by_cases hk60 : k < 60
        · have hk60' : (k : Int) < 60 := by omega
          obtain ⟨⟨kd, b, y, fs, ks, zl, bl⟩, hck, ok0, hcell⟩ := HCS.out k hkl
          have ok1 := ok0.keep rb
          have hcw : ∀ j u, [Value.int .i64 kd, .int .i64 b, .int .u8 y, fs, ks][j]? = some u → wr.cell? ((a.add (k * 5)).add j) = some u := fun j u hj => cell_keep (hcell j u hj) rb
          have HCW := show Hid _ from hcw
          have z0 : Row (wr.alloc (.cells #[.int .i64 0, .int .i64 0, .int .u8 0, .slice none 0 0, .slice none 0 0] 33)) wr.heap.size #[.int .i64 0, .int .i64 0, .int .u8 0, .slice none 0 0, .slice none 0 0] 33 := Row.new _ _ _
          have hone : (#[Value.int .i64 kd, .int .i64 b, .int .u8 y, fs, ks].all (·.oneCell')) = true := by simp [Value.oneCell', ok1.fs.one, ok1.ks.one]; exact ⟨ok1.fs.one, ok1.ks.one⟩
          have HONE := show Hid _ from hone
          clear hone
          have r2 : Row ((wr.alloc (.cells #[.int .i64 0, .int .i64 0, .int .u8 0, .slice none 0 0, .slice none 0 0] 33)).setRow wr.heap.size #[.int .i64 kd, .int .i64 b, .int .u8 y, fs, ks]) wr.heap.size #[.int .i64 kd, .int .i64 b, .int .u8 y, fs, ks] 33 := z0.set _
          have c0 := row_at r2 0 (.int .i64 kd) rfl
          have c1 := row_at r2 1 (.int .i64 b) rfl
          have D2 : DAt ((wr.alloc (.cells #[.int .i64 0, .int .i64 0, .int .u8 0, .slice none 0 0, .slice none 0 0] 33)).setRow wr.heap.size #[.int .i64 kd, .int .i64 b, .int .u8 y, fs, ks]) G d L (4 * k) := (D.alloc _).setRow _ _ (fun q => by have := D.lt q; omega)
          have rb2 : Below w.heap.size w ((wr.alloc (.cells #[.int .i64 0, .int .i64 0, .int .u8 0, .slice none 0 0, .slice none 0 0] 33)).setRow wr.heap.size #[.int .i64 kd, .int .i64 b, .int .u8 y, fs, ks]) := below_setRow (rb.alloc rb.size _) rb.size _
          clear hcell ok0 hck hcw
          have hcw := HCW.out
          have tl : Hid (1 = 1) := rfl
          have ts : Hid (1 = 1) := rfl
          by_cases q1 : kd < 0
          · clear ok1 hm0 hm1 e1 e1' v1 v2 v3
            go_wp2_with (first
              | (have hh := tl; clear hh tl; refine wpList_load_any rfl 33 (.tmp 35) rfl (a.add (k * 5)) rfl [.int .i64 kd, .int .i64 b, .int .u8 y, fs, ks] _ hcw Try.underlying33 rfl size33 ?_)
              | (have hh := ts; clear hh ts; refine store_cells rfl 33 (.tmp 8) (.tmp 36) rfl wr.heap.size #[.int .i64 kd, .int .i64 b, .int .u8 y, fs, ks] rfl rfl 33 _ z0 5 size33 rfl rfl HONE.out ?_))
            go_roundw
            case rel => exact ⟨k + 1, d, L, by go_num, by omega, HU, D2.grow (by omega) (by omega), rb2, HF⟩
            case measure => simp [intOf]; omega
          by_cases q2 : kd > 2
          · clear ok1 hm0 hm1 e1 e1' v1 v2 v3
            go_wp2_with (first
              | (have hh := tl; clear hh tl; refine wpList_load_any rfl 33 (.tmp 35) rfl (a.add (k * 5)) rfl [.int .i64 kd, .int .i64 b, .int .u8 y, fs, ks] _ hcw Try.underlying33 rfl size33 ?_)
              | (have hh := ts; clear hh ts; refine store_cells rfl 33 (.tmp 8) (.tmp 36) rfl wr.heap.size #[.int .i64 kd, .int .i64 b, .int .u8 y, fs, ks] rfl rfl 33 _ z0 5 size33 rfl rfl HONE.out ?_))
            go_roundw
            case rel => exact ⟨k + 1, d, L, by go_num, by omega, HU, D2.grow (by omega) (by omega), rb2, HF⟩
            case measure => simp [intOf]; omega
          by_cases q3 : kd < 2
          · by_cases q4 : b < 0
            · clear ok1 hm0 hm1 e1 e1' v1 v2 v3
              go_wp2_with (first
                | (have hh := tl; clear hh tl; refine wpList_load_any rfl 33 (.tmp 35) rfl (a.add (k * 5)) rfl [.int .i64 kd, .int .i64 b, .int .u8 y, fs, ks] _ hcw Try.underlying33 rfl size33 ?_)
                | (have hh := ts; clear hh ts; refine store_cells rfl 33 (.tmp 8) (.tmp 36) rfl wr.heap.size #[.int .i64 kd, .int .i64 b, .int .u8 y, fs, ks] rfl rfl 33 _ z0 5 size33 rfl rfl HONE.out ?_))
              go_roundw
              case rel => exact ⟨k + 1, d, L, by go_num, by omega, HU, D2.grow (by omega) (by omega), rb2, HF⟩
              case measure => simp [intOf]; omega
            by_cases q5 : b > 7
            · clear ok1 hm0 hm1 e1 e1' v1 v2 v3
              go_wp2_with (first
                | (have hh := tl; clear hh tl; refine wpList_load_any rfl 33 (.tmp 35) rfl (a.add (k * 5)) rfl [.int .i64 kd, .int .i64 b, .int .u8 y, fs, ks] _ hcw Try.underlying33 rfl size33 ?_)
                | (have hh := ts; clear hh ts; refine store_cells rfl 33 (.tmp 8) (.tmp 36) rfl wr.heap.size #[.int .i64 kd, .int .i64 b, .int .u8 y, fs, ks] rfl rfl 33 _ z0 5 size33 rfl rfl HONE.out ?_))
              go_roundw
              case rel => exact ⟨k + 1, d, L, by go_num, by omega, HU, D2.grow (by omega) (by omega), rb2, HF⟩
              case measure => simp [intOf]; omega
            · have hact := act_fus HU.out ⟨kd, b, y, fs, ks, zl, bl⟩ (by show 0 ≤ kd; omega) (by show kd ≤ 2; omega) (fun _ => ⟨by show 0 ≤ b; omega, by show b ≤ 7; omega⟩)
              have hop := HU.out.lim
              have hop0 := HU.out.ops
              have hon := HU.out.on
              have hdo := do_disk D2 (by omega) (by omega) ⟨kd, b, y, fs, ks, zl, bl⟩ (ok1.keep (below_setRow ((Below.refl _ _).alloc (Nat.le_refl _) _) (Nat.le_refl _) _))
              have hX : (act d ⟨kd, b, y, fs, ks, zl, bl⟩).1.length = 256 := act_length D _
              obtain ⟨A1, A2, A3, A4'⟩ := hact
              have A4 := show Hid _ from A4'
              clear A4'
              generalize act d ⟨kd, b, y, fs, ks, zl, bl⟩ = rr at hdo hX A1 A2 A3 A4
              obtain ⟨X, E, r⟩ := rr
              simp only at hdo hX A1 A2 A3 A4
              obtain ⟨o, ho'⟩ : ∃ o, Hid (d.ops = o) := ⟨_, rfl⟩
              have ho := ho'.out
              rw [ho] at A1 A2 A3 hop hop0 hon
              have hwr : IntKind.i64.wrap (o + 1) = o + 1 := by rw [IntKind.wrap_i64]; omega
              by_cases hd0 : d.down = true
              · have hd : d.down = true := hd0
                simp only [hd0, if_true] at A1 A2 A3
                have A1' := A1
                have A2' := A2
                have A3' := A3
                clear hon hd0 ok1 hm0 hm1 e1 e1' v1 v2 v3 A1 A2 A3 D
                go_wp2_with (first
                  | (have hh := tl; clear hh tl; refine wpList_load_any rfl 33 (.tmp 35) rfl (a.add (k * 5)) rfl [.int .i64 kd, .int .i64 b, .int .u8 y, fs, ks] _ hcw Try.underlying33 rfl size33 ?_)
                  | (have hh := ts; clear hh ts; refine store_cells rfl 33 (.tmp 8) (.tmp 36) rfl wr.heap.size #[.int .i64 kd, .int .i64 b, .int .u8 y, fs, ks] rfl rfl 33 _ z0 5 size33 rfl rfl HONE.out ?_)
                  | (have hh := tm; clear hh tm; refine wpList_load_mid rfl 33 (.tmp 8) rfl wr.heap.size 0 rfl [.int .i64 kd, .int .i64 b, .int .u8 y, fs, ks] _ (range_op r2) Try.underlying33 rfl size33 ?_)
                  | (go_at_call 19; refine (ops_any D8).mono ?_; rw [A2']; rintro e w' ⟨rfl, rfl⟩)
                  | (go_at_call 18; refine (down_any D8).mono ?_; rw [A3']; rintro e w' ⟨rfl, rfl⟩)
                  | (go_at_call 19; refine (ops_any D2).mono ?_; rw [ho]; rintro e w' ⟨rfl, rfl⟩)
                  | (go_at_call 18; refine (down_any D2).mono ?_; rw [hd]; rintro e w' ⟨rfl, rfl⟩; have tm : Hid (1 = 1) := rfl)
                  | (go_at_call 11; refine hdo.mono ?_; rw [A1']; rintro e w7 ⟨rfl, L7, D7, O7, F7⟩
                     have y0 : Row (w7.alloc (.cells (bs (zs 256)) 35)) w7.heap.size (bs (zs 256)) 35 := Row.new _ _ _
                     have D8 : DAt ((w7.alloc (.cells (bs (zs 256)) 35)).setRow w7.heap.size (bs X)) G r L7 (4 * k + 4) := (D7.alloc _).setRow _ _ (fun q => by have := D7.lt q; omega)
                     have B7 : Below w.heap.size w w7 := rb2.trans (O7.below rb2.size HF.out)
                     have B8 : Below w.heap.size w ((w7.alloc (.cells (bs (zs 256)) 35)).setRow w7.heap.size (bs X)) := below_setRow (B7.alloc B7.size _) B7.size _
                     have F8 : Hid (∀ j, foot G L7 j → w.heap.size ≤ j) := fun j hj => (by
                       rcases F7 j hj with q | q
                       · exact HF.out j q
                       · exact Nat.le_trans rb2.size q))
                  | (have hh := y0; clear hh; refine store_row rfl 35 (.tmp 11) (.tmp 68) rfl w7.heap.size X rfl rfl 35 _ y0 256 size35 (by rw [bs_size, zs_length]) hX ?_; clear y0))
                go_roundw
                case rel => exact ⟨k + 1, r, L7, by go_num, by omega, A4, D8.grow (by omega) (by omega), B8, F8⟩
                case measure => simp [intOf]; omega
              · have hd : d.down = false := by simpa using hd0
                have hon' := hon hd
                simp only [hd, Bool.false_eq_true, if_false] at A1 A2 A3
                by_cases hn : o + 1 = 1 + m
                · rw [if_pos hn] at A1
                  rw [decide_eq_true hn] at A3
                  have A1' := A1
                  have A2' := A2
                  have A3' := A3
                  have hlt : ¬ o + 1 < 1 + m := by omega
                  have hbe : (o + 1 == 1 + m) = true := by simpa using hn
                  have HN1 := show Hid _ from hn
                  clear hon hon' hd0 ok1 hm0 hm1 e1 e1' v1 v2 v3 A1 A2 A3 D hn
                  go_wp2_with (first
                    | (have hh := tl; clear hh tl; refine wpList_load_any rfl 33 (.tmp 35) rfl (a.add (k * 5)) rfl [.int .i64 kd, .int .i64 b, .int .u8 y, fs, ks] _ hcw Try.underlying33 rfl size33 ?_)
                    | (have hh := ts; clear hh ts; refine store_cells rfl 33 (.tmp 8) (.tmp 36) rfl wr.heap.size #[.int .i64 kd, .int .i64 b, .int .u8 y, fs, ks] rfl rfl 33 _ z0 5 size33 rfl rfl HONE.out ?_)
                    | (have hh := tm; clear hh tm; refine wpList_load_mid rfl 33 (.tmp 8) rfl wr.heap.size 0 rfl [.int .i64 kd, .int .i64 b, .int .u8 y, fs, ks] _ (range_op r2) Try.underlying33 rfl size33 ?_)
                    | (go_at_call 19; refine (ops_any D8).mono ?_; rw [A2']; rintro e w' ⟨rfl, rfl⟩)
                    | (go_at_call 18; refine (down_any D8).mono ?_; rw [A3']; rintro e w' ⟨rfl, rfl⟩)
                    | (go_at_call 19; refine (ops_any D2).mono ?_; rw [ho]; rintro e w' ⟨rfl, rfl⟩)
                    | (go_at_call 18; refine (down_any D2).mono ?_; rw [hd]; rintro e w' ⟨rfl, rfl⟩; have tm : Hid (1 = 1) := rfl)
                    | (go_at_call 11; refine hdo.mono ?_; rw [A1']; rintro e w7 ⟨rfl, L7, D7, O7, F7⟩
                       have y0 : Row (w7.alloc (.cells (bs (zs 256)) 35)) w7.heap.size (bs (zs 256)) 35 := Row.new _ _ _
                       have D8 : DAt ((w7.alloc (.cells (bs (zs 256)) 35)).setRow w7.heap.size (bs X)) G r L7 (4 * k + 4) := (D7.alloc _).setRow _ _ (fun q => by have := D7.lt q; omega)
                       have B7 : Below w.heap.size w w7 := rb2.trans (O7.below rb2.size HF.out)
                       have B8 : Below w.heap.size w ((w7.alloc (.cells (bs (zs 256)) 35)).setRow w7.heap.size (bs X)) := below_setRow (B7.alloc B7.size _) B7.size _
                       have F8 : Hid (∀ j, foot G L7 j → w.heap.size ≤ j) := fun j hj => (by
                         rcases F7 j hj with q | q
                         · exact HF.out j q
                         · exact Nat.le_trans rb2.size q))
                    | (have hh := y0; clear hh; refine store_row rfl 35 (.tmp 11) (.tmp 68) rfl w7.heap.size X rfl rfl 35 _ y0 256 size35 (by rw [bs_size, zs_length]) hX ?_; clear y0))
                  go_roundw
                  case rel => exact ⟨k + 1, r, L7, by go_num, by omega, A4, D8.grow (by omega) (by omega), B8, F8⟩
                  case measure => simp [intOf]; omega
                · rw [if_neg hn] at A1
                  rw [decide_eq_false hn] at A3
                  have A1' := A1
                  have A2' := A2
                  have A3' := A3
                  have hlt : o + 1 < 1 + m := by omega
                  have hbe : (o + 1 == 1 + m) = false := by simpa using hn
                  clear hon hon' hd0 ok1 hm0 hm1 e1 e1' v1 v2 v3 A1 A2 A3 D
                  go_wp2_with (first
                    | (have hh := tl; clear hh tl; refine wpList_load_any rfl 33 (.tmp 35) rfl (a.add (k * 5)) rfl [.int .i64 kd, .int .i64 b, .int .u8 y, fs, ks] _ hcw Try.underlying33 rfl size33 ?_)
                    | (have hh := ts; clear hh ts; refine store_cells rfl 33 (.tmp 8) (.tmp 36) rfl wr.heap.size #[.int .i64 kd, .int .i64 b, .int .u8 y, fs, ks] rfl rfl 33 _ z0 5 size33 rfl rfl HONE.out ?_)
                    | (have hh := tm; clear hh tm; refine wpList_load_mid rfl 33 (.tmp 8) rfl wr.heap.size 0 rfl [.int .i64 kd, .int .i64 b, .int .u8 y, fs, ks] _ (range_op r2) Try.underlying33 rfl size33 ?_)
                    | (go_at_call 19; refine (ops_any D8).mono ?_; rw [A2']; rintro e w' ⟨rfl, rfl⟩)
                    | (go_at_call 18; refine (down_any D8).mono ?_; rw [A3']; rintro e w' ⟨rfl, rfl⟩)
                    | (go_at_call 19; refine (ops_any D2).mono ?_; rw [ho]; rintro e w' ⟨rfl, rfl⟩)
                    | (go_at_call 18; refine (down_any D2).mono ?_; rw [hd]; rintro e w' ⟨rfl, rfl⟩; have tm : Hid (1 = 1) := rfl)
                    | (go_at_call 11; refine hdo.mono ?_; rw [A1']; rintro e w7 ⟨rfl, L7, D7, O7, F7⟩
                       have y0 : Row (w7.alloc (.cells (bs (zs 256)) 35)) w7.heap.size (bs (zs 256)) 35 := Row.new _ _ _
                       have D8 : DAt ((w7.alloc (.cells (bs (zs 256)) 35)).setRow w7.heap.size (bs X)) G r L7 (4 * k + 4) := (D7.alloc _).setRow _ _ (fun q => by have := D7.lt q; omega)
                       have B7 : Below w.heap.size w w7 := rb2.trans (O7.below rb2.size HF.out)
                       have B8 : Below w.heap.size w ((w7.alloc (.cells (bs (zs 256)) 35)).setRow w7.heap.size (bs X)) := below_setRow (B7.alloc B7.size _) B7.size _
                       have F8 : Hid (∀ j, foot G L7 j → w.heap.size ≤ j) := fun j hj => (by
                         rcases F7 j hj with q | q
                         · exact HF.out j q
                         · exact Nat.le_trans rb2.size q))
                    | (have hh := y0; clear hh; refine store_row rfl 35 (.tmp 11) (.tmp 68) rfl w7.heap.size X rfl rfl 35 _ y0 256 size35 (by rw [bs_size, zs_length]) hX ?_; clear y0))
                  go_roundw
                  case rel => exact ⟨k + 1, r, L7, by go_num, by omega, A4, D8.grow (by omega) (by omega), B8, F8⟩
                  case measure => simp [intOf]; omega
          · have hact := act_fus HU.out ⟨kd, b, y, fs, ks, zl, bl⟩ (by show 0 ≤ kd; omega) (by show kd ≤ 2; omega) (fun q => absurd q q3)
            have hop := HU.out.lim
            have hop0 := HU.out.ops
            have hon := HU.out.on
            have hdo := do_disk D2 (by omega) (by omega) ⟨kd, b, y, fs, ks, zl, bl⟩ (ok1.keep (below_setRow ((Below.refl _ _).alloc (Nat.le_refl _) _) (Nat.le_refl _) _))
            have hX : (act d ⟨kd, b, y, fs, ks, zl, bl⟩).1.length = 256 := act_length D _
            obtain ⟨A1, A2, A3, A4'⟩ := hact
            have A4 := show Hid _ from A4'
            clear A4'
            generalize act d ⟨kd, b, y, fs, ks, zl, bl⟩ = rr at hdo hX A1 A2 A3 A4
            obtain ⟨X, E, r⟩ := rr
            simp only at hdo hX A1 A2 A3 A4
            obtain ⟨o, ho'⟩ : ∃ o, Hid (d.ops = o) := ⟨_, rfl⟩
            have ho := ho'.out
            rw [ho] at A1 A2 A3 hop hop0 hon
            have hwr : IntKind.i64.wrap (o + 1) = o + 1 := by rw [IntKind.wrap_i64]; omega
            by_cases hd0 : d.down = true
            · have hd : d.down = true := hd0
              simp only [hd0, if_true] at A1 A2 A3
              have A1' := A1
              have A2' := A2
              have A3' := A3
              clear hon hd0 ok1 hm0 hm1 e1 e1' v1 v2 v3 A1 A2 A3 D
              go_wp2_with (first
                | (have hh := tl; clear hh tl; refine wpList_load_any rfl 33 (.tmp 35) rfl (a.add (k * 5)) rfl [.int .i64 kd, .int .i64 b, .int .u8 y, fs, ks] _ hcw Try.underlying33 rfl size33 ?_)
                | (have hh := ts; clear hh ts; refine store_cells rfl 33 (.tmp 8) (.tmp 36) rfl wr.heap.size #[.int .i64 kd, .int .i64 b, .int .u8 y, fs, ks] rfl rfl 33 _ z0 5 size33 rfl rfl HONE.out ?_)
                | (have hh := tm; clear hh tm; refine wpList_load_mid rfl 33 (.tmp 8) rfl wr.heap.size 0 rfl [.int .i64 kd, .int .i64 b, .int .u8 y, fs, ks] _ (range_op r2) Try.underlying33 rfl size33 ?_)
                | (go_at_call 19; refine (ops_any D8).mono ?_; rw [A2']; rintro e w' ⟨rfl, rfl⟩)
                | (go_at_call 18; refine (down_any D8).mono ?_; rw [A3']; rintro e w' ⟨rfl, rfl⟩)
                | (go_at_call 19; refine (ops_any D2).mono ?_; rw [ho]; rintro e w' ⟨rfl, rfl⟩)
                | (go_at_call 18; refine (down_any D2).mono ?_; rw [hd]; rintro e w' ⟨rfl, rfl⟩; have tm : Hid (1 = 1) := rfl)
                | (go_at_call 11; refine hdo.mono ?_; rw [A1']; rintro e w7 ⟨rfl, L7, D7, O7, F7⟩
                   have y0 : Row (w7.alloc (.cells (bs (zs 256)) 35)) w7.heap.size (bs (zs 256)) 35 := Row.new _ _ _
                   have D8 : DAt ((w7.alloc (.cells (bs (zs 256)) 35)).setRow w7.heap.size (bs X)) G r L7 (4 * k + 4) := (D7.alloc _).setRow _ _ (fun q => by have := D7.lt q; omega)
                   have B7 : Below w.heap.size w w7 := rb2.trans (O7.below rb2.size HF.out)
                   have B8 : Below w.heap.size w ((w7.alloc (.cells (bs (zs 256)) 35)).setRow w7.heap.size (bs X)) := below_setRow (B7.alloc B7.size _) B7.size _
                   have F8 : Hid (∀ j, foot G L7 j → w.heap.size ≤ j) := fun j hj => (by
                     rcases F7 j hj with q | q
                     · exact HF.out j q
                     · exact Nat.le_trans rb2.size q))
                | (have hh := y0; clear hh; refine store_row rfl 35 (.tmp 11) (.tmp 68) rfl w7.heap.size X rfl rfl 35 _ y0 256 size35 (by rw [bs_size, zs_length]) hX ?_; clear y0))
              go_roundw
              case rel => exact ⟨k + 1, r, L7, by go_num, by omega, A4, D8.grow (by omega) (by omega), B8, F8⟩
              case measure => simp [intOf]; omega
            · have hd : d.down = false := by simpa using hd0
              have hon' := hon hd
              simp only [hd, Bool.false_eq_true, if_false] at A1 A2 A3
              by_cases hn : o + 1 = 1 + m
              · rw [if_pos hn] at A1
                rw [decide_eq_true hn] at A3
                have A1' := A1
                have A2' := A2
                have A3' := A3
                have hlt : ¬ o + 1 < 1 + m := by omega
                have hbe : (o + 1 == 1 + m) = true := by simpa using hn
                have HN1 := show Hid _ from hn
                clear hon hon' hd0 ok1 hm0 hm1 e1 e1' v1 v2 v3 A1 A2 A3 D hn
                go_wp2_with (first
                  | (have hh := tl; clear hh tl; refine wpList_load_any rfl 33 (.tmp 35) rfl (a.add (k * 5)) rfl [.int .i64 kd, .int .i64 b, .int .u8 y, fs, ks] _ hcw Try.underlying33 rfl size33 ?_)
                  | (have hh := ts; clear hh ts; refine store_cells rfl 33 (.tmp 8) (.tmp 36) rfl wr.heap.size #[.int .i64 kd, .int .i64 b, .int .u8 y, fs, ks] rfl rfl 33 _ z0 5 size33 rfl rfl HONE.out ?_)
                  | (have hh := tm; clear hh tm; refine wpList_load_mid rfl 33 (.tmp 8) rfl wr.heap.size 0 rfl [.int .i64 kd, .int .i64 b, .int .u8 y, fs, ks] _ (range_op r2) Try.underlying33 rfl size33 ?_)
                  | (go_at_call 19; refine (ops_any D8).mono ?_; rw [A2']; rintro e w' ⟨rfl, rfl⟩)
                  | (go_at_call 18; refine (down_any D8).mono ?_; rw [A3']; rintro e w' ⟨rfl, rfl⟩)
                  | (go_at_call 19; refine (ops_any D2).mono ?_; rw [ho]; rintro e w' ⟨rfl, rfl⟩)
                  | (go_at_call 18; refine (down_any D2).mono ?_; rw [hd]; rintro e w' ⟨rfl, rfl⟩; have tm : Hid (1 = 1) := rfl)
                  | (go_at_call 11; refine hdo.mono ?_; rw [A1']; rintro e w7 ⟨rfl, L7, D7, O7, F7⟩
                     have y0 : Row (w7.alloc (.cells (bs (zs 256)) 35)) w7.heap.size (bs (zs 256)) 35 := Row.new _ _ _
                     have D8 : DAt ((w7.alloc (.cells (bs (zs 256)) 35)).setRow w7.heap.size (bs X)) G r L7 (4 * k + 4) := (D7.alloc _).setRow _ _ (fun q => by have := D7.lt q; omega)
                     have B7 : Below w.heap.size w w7 := rb2.trans (O7.below rb2.size HF.out)
                     have B8 : Below w.heap.size w ((w7.alloc (.cells (bs (zs 256)) 35)).setRow w7.heap.size (bs X)) := below_setRow (B7.alloc B7.size _) B7.size _
                     have F8 : Hid (∀ j, foot G L7 j → w.heap.size ≤ j) := fun j hj => (by
                       rcases F7 j hj with q | q
                       · exact HF.out j q
                       · exact Nat.le_trans rb2.size q))
                  | (have hh := y0; clear hh; refine store_row rfl 35 (.tmp 11) (.tmp 68) rfl w7.heap.size X rfl rfl 35 _ y0 256 size35 (by rw [bs_size, zs_length]) hX ?_; clear y0))
                go_roundw
                case rel => exact ⟨k + 1, r, L7, by go_num, by omega, A4, D8.grow (by omega) (by omega), B8, F8⟩
                case measure => simp [intOf]; omega
              · rw [if_neg hn] at A1
                rw [decide_eq_false hn] at A3
                have A1' := A1
                have A2' := A2
                have A3' := A3
                have hlt : o + 1 < 1 + m := by omega
                have hbe : (o + 1 == 1 + m) = false := by simpa using hn
                clear hon hon' hd0 ok1 hm0 hm1 e1 e1' v1 v2 v3 A1 A2 A3 D
                go_wp2_with (first
                  | (have hh := tl; clear hh tl; refine wpList_load_any rfl 33 (.tmp 35) rfl (a.add (k * 5)) rfl [.int .i64 kd, .int .i64 b, .int .u8 y, fs, ks] _ hcw Try.underlying33 rfl size33 ?_)
                  | (have hh := ts; clear hh ts; refine store_cells rfl 33 (.tmp 8) (.tmp 36) rfl wr.heap.size #[.int .i64 kd, .int .i64 b, .int .u8 y, fs, ks] rfl rfl 33 _ z0 5 size33 rfl rfl HONE.out ?_)
                  | (have hh := tm; clear hh tm; refine wpList_load_mid rfl 33 (.tmp 8) rfl wr.heap.size 0 rfl [.int .i64 kd, .int .i64 b, .int .u8 y, fs, ks] _ (range_op r2) Try.underlying33 rfl size33 ?_)
                  | (go_at_call 19; refine (ops_any D8).mono ?_; rw [A2']; rintro e w' ⟨rfl, rfl⟩)
                  | (go_at_call 18; refine (down_any D8).mono ?_; rw [A3']; rintro e w' ⟨rfl, rfl⟩)
                  | (go_at_call 19; refine (ops_any D2).mono ?_; rw [ho]; rintro e w' ⟨rfl, rfl⟩)
                  | (go_at_call 18; refine (down_any D2).mono ?_; rw [hd]; rintro e w' ⟨rfl, rfl⟩; have tm : Hid (1 = 1) := rfl)
                  | (go_at_call 11; refine hdo.mono ?_; rw [A1']; rintro e w7 ⟨rfl, L7, D7, O7, F7⟩
                     have y0 : Row (w7.alloc (.cells (bs (zs 256)) 35)) w7.heap.size (bs (zs 256)) 35 := Row.new _ _ _
                     have D8 : DAt ((w7.alloc (.cells (bs (zs 256)) 35)).setRow w7.heap.size (bs X)) G r L7 (4 * k + 4) := (D7.alloc _).setRow _ _ (fun q => by have := D7.lt q; omega)
                     have B7 : Below w.heap.size w w7 := rb2.trans (O7.below rb2.size HF.out)
                     have B8 : Below w.heap.size w ((w7.alloc (.cells (bs (zs 256)) 35)).setRow w7.heap.size (bs X)) := below_setRow (B7.alloc B7.size _) B7.size _
                     have F8 : Hid (∀ j, foot G L7 j → w.heap.size ≤ j) := fun j hj => (by
                       rcases F7 j hj with q | q
                       · exact HF.out j q
                       · exact Nat.le_trans rb2.size q))
                  | (have hh := y0; clear hh; refine store_row rfl 35 (.tmp 11) (.tmp 68) rfl w7.heap.size X rfl rfl 35 _ y0 256 size35 (by rw [bs_size, zs_length]) hX ?_; clear y0))
                go_roundw
                case rel => exact ⟨k + 1, r, L7, by go_num, by omega, A4, D8.grow (by omega) (by omega), B8, F8⟩
                case measure => simp [intOf]; omega
        · have hk60' : ¬ (k : Int) < 60 := by omega
          have hcd : (d.crash []).down = false := rfl
          have hco : (d.crash []).ops = 0 := rfl
          have hcs' := crash_sync d []
          go_wp2_with (first
            | (go_at_call 28; refine (crash_any D (.slice none 0 0) [] (Or.inl ⟨rfl, rfl⟩) (fun a n c e => (by cases e))).mono ?_; rintro e w5 ⟨rfl, L5, D5, O5, F5⟩)
            | (go_at_call 18; refine (down_any D5).mono ?_; rw [hcd]; rintro e w' ⟨rfl, rfl⟩)
            | (go_at_call 19; refine (ops_any D5).mono ?_; rw [hco]; rintro e w' ⟨rfl, rfl⟩)
            | (go_at_call 27; refine (sync_any D5 (by rw [hco]; omega)).mono ?_; rw [hcs']; rintro e w6 ⟨rfl, L6, D6, O6, F6⟩
               have B5 := rb.trans (O5.below rb.size HF.out)
               have B6 : Below w.heap.size w w6 := B5.trans (O6.below B5.size (fun k hk => (by
                 rcases F5 k hk with q | q
                 · exact HF.out k q
                 · exact Nat.le_trans rb.size q))))
            | (go_at_call 10; refine (awake_any _).mono ?_; rintro e w7 ⟨rfl, b7⟩))
          go_ret
          exact ⟨rfl, B6.trans (b7.mono B6.size)⟩
      · have hkl' : ¬ (k : Int) < (n : Int) := by omega
        have hcd : (d.crash []).down = false := rfl
        have hco : (d.crash []).ops = 0 := rfl
        have hcs' := crash_sync d []
        go_wp2_with (first
          | (go_at_call 28; refine (crash_any D (.slice none 0 0) [] (Or.inl ⟨rfl, rfl⟩) (fun a n c e => (by cases e))).mono ?_; rintro e w5 ⟨rfl, L5, D5, O5, F5⟩)
          | (go_at_call 18; refine (down_any D5).mono ?_; rw [hcd]; rintro e w' ⟨rfl, rfl⟩)
          | (go_at_call 19; refine (ops_any D5).mono ?_; rw [hco]; rintro e w' ⟨rfl, rfl⟩)
          | (go_at_call 27; refine (sync_any D5 (by rw [hco]; omega)).mono ?_; rw [hcs']; rintro e w6 ⟨rfl, L6, D6, O6, F6⟩
             have B5 := rb.trans (O5.below rb.size HF.out)
             have B6 : Below w.heap.size w w6 := B5.trans (O6.below B5.size (fun k hk => (by
               rcases F5 k hk with q | q
               · exact HF.out k q
               · exact Nat.le_trans rb.size q))))
          | (go_at_call 10; refine (awake_any _).mono ?_; rintro e w7 ⟨rfl, b7⟩))
        go_ret
        exact ⟨rfl, B6.trans (b7.mono B6.size)⟩

set_option maxRecDepth 100000 in
theorem lifted (os : Os) (started : os.Started) (H : Type) (enc : TypeId × Value → H) :
    ReturnsInHanded {} Try.checked os 6 .any (Rows.diskFuseSpec.pre6 enc Try.prog Try.f6 Rows.diskFuseRow.domain false) (Rows.diskFuseSpec.post enc Try.prog Try.f6 false true false false) := by
  refine returnsInHanded_of_change_sized (C := Try.checked) own started (by kernel_rfl) Try.func6
    (ChangeSpec.witness6 (enc := enc) (C := Try.checked) false ⟨#[], #[.int .u8 0, .slice none 0 0], []⟩ 8 (by kernel_rfl) (by kernel_rfl) (by kernel_rfl) (by kernel_rfl)) ?_
  intro W base args ds gs before hval0 hW hcnd hsz0 _
  have hval : ∀ (j : Nat) t v, Try.f6.params[j]? = some t → args[j]? = some v → Value.okWide Try.prog W .any base t v := hval0
  have hW' := hW
  obtain ⟨p, q, hA0, hV, rfl, hfz, hnd⟩ := hW
  have hA : DataW.TrodAll enc Try.prog W 0 (fun _ => true) true Try.f6.params.toList args.toList ds p := hA0
  have hsz : (DataW.weightsEach Try.prog (Try.f6.params.toList ++ []) (ds ++ gs)).all (· ≤ reachBytes) = true := hsz0
  rw [Try.params6] at hA hval hsz
  obtain ⟨v0, vs0, d0, ds0, p0, q0, hargs, rfl, rfl, h0, r0⟩ := trodAll_cons hA
  obtain ⟨v1, vs1, d1, ds1, p1, q1, rfl, rfl, rfl, h1, r1⟩ := trodAll_cons r0
  obtain ⟨rfl, rfl, rfl⟩ := trodAll_nil r1
  obtain rfl : args = #[v0, v1] := by cases args; simp_all
  obtain ⟨rfl, rfl⟩ := trodVars_none hV
  simp only [List.append_nil] at hsz
  have hlt : ∀ x ∈ (p0 ++ (p1 ++ [])), x.block < W.heap.size := fun x hx => hW'.lt x (by simpa using hx)
  have hw0 : (d0.weights Try.prog 5).all (· ≤ reachBytes) = true := List.all_eq_true.2 fun m hm => List.all_eq_true.1 hsz m (by simp [DataW.weightsEach, hm])
  have hw1 : (d1.weights Try.prog 22).all (· ≤ reachBytes) = true := List.all_eq_true.2 fun m hm => List.all_eq_true.1 hsz m (by simp [DataW.weightsEach, hm])
  have k0 := h0
  have k1 := h1
  obtain ⟨a0, rfl, rfl, rfl, w0⟩ := open_int Try.underlying5 (hval 0 5 v0 rfl rfl) h0
  obtain ⟨a1, w1⟩ := open_calls (hval 1 22 v1 rfl rfl) h1 hw1
  clear hA0 hval0
  simp only [List.append_nil] at hW'
  refine (walk W a0 v1 a1 w0 w1).mono fun e W' ⟨he, hg⟩ => ?_
  subst he
  exact ⟨_, rfl, ⟨_, _, _, [], ([] ++ (p1 ++ [])), [], hW', (trodAll_cons_mk (shut_bool Try.underlying4 _) trodAll_mk0), (trodAll_cons_mk (Below.trod laid (by kernel_rfl) (of_decide_eq_true (by kernel_rfl)) k0 hg (fun x hx => (nomatch hx))) (trodAll_cons_mk (Below.trod laid (by kernel_rfl) (of_decide_eq_true (by kernel_rfl)) k1 hg (fun x hx => hlt x (by simp [hx]))) trodAll_mk0)), rfl,
    hg.frame _, fun h => by cases h⟩⟩

theorem over : Rows.diskFuseRow.holds Try.pinned (OpenSpec.ofChange Rows.diskFuseSpec) :=
  OpenClaim.holds_of_wide 6 Try.f6 rfl rfl rfl rfl rfl rfl rfl ⟨rfl, rfl, rfl, rfl, rfl⟩ rfl rfl rfl rfl rfl (by kernel_rfl) Try.func6 (by kernel_rfl)
    (of_decide_eq_true (by kernel_rfl)) (by unfold Func.isWrapper; first | (rw [if_pos (by decide +kernel)]; kernel_rfl) | (rw [if_neg (by decide +kernel)]; exact ⟨rfl, rfl⟩))
    (fun os started H enc _ => lifted os started H enc)

/-- The statement. -/
theorem proved : Rows.DiskFuseSaid :=
  over
#print axioms proved
end Go.Proofs.Ytkgmhliocfbdfaa.diskFuse
