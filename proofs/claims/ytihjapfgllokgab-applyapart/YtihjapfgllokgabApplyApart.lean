/-
  Proved here: entries about other pages, and commits, laid between those of a log, change nothing.
-/
import Derived.Test.YtihjapfgllokgabOpp
import Derived.Test.YtihjapfgllokgabFcu
namespace Go.Proofs.Ytihjapfgllokgab.applyApart
open Go.ChangeShapes Go.WideShapes Go.ChangeAt Go.RowKit
open Go.Deep
set_option linter.unusedVariables false
set_option linter.unusedSimpArgs false

theorem own : ownKnob Try.prog.godebug = none := by kernel_rfl

set_option maxRecDepth 20000

theorem OwnE.carry {w w' : World} {base : Nat} {v : Value} {es : List En} (h : OwnE w base v es) (hc : ∀ b cs, v.ownBlock = some b → Row w b cs 39 → Row w' b cs 39) : OwnE w' base v es := by
  obtain ⟨h1, h2⟩ := h
  refine ⟨h1, ?_⟩
  rcases h2 with h2 | ⟨g, cap, cur, rfl, hb', hr, rest⟩
  · exact Or.inl h2
  · exact Or.inr ⟨g, cap, cur, rfl, hb', hc g cur (by simp [Value.ownBlock]) hr, rest⟩
/-- Two logs that grow, and an entry beside them. -/
structure Tw (w : World) (B T : Nat) (e : En) (vW : Value) (wl : List En) (vA : Value) (al : List En) : Prop where
  row : Row w T e.arr 39
  ow : OwnE w B vW wl
  oa : OwnE w B vA al
  ap : ∀ b, vW.ownBlock = some b → vA.ownBlock ≠ some b
  tw : vW.ownBlock ≠ some T
  ta : vA.ownBlock ≠ some T
theorem Tw.keep {w w' : World} {B T : Nat} {e : En} {vW vA : Value} {wl al : List En} (h : Tw w B T e vW wl vA al) (hb : Below w.heap.size w w') : Tw w' B T e vW wl vA al :=
  ⟨h.row.below hb h.row.lt, h.ow.keep hb, h.oa.keep hb, h.ap, h.tw, h.ta⟩
theorem Tw.growA {w w' : World} {B T : Nat} {e : En} {vW vA v' : Value} {wl al al' : List En} (h : Tw w B T e vW wl vA al) (hO : OwnE w' B v' al') (gr : w.grownBy w' vA.ownBlock) (hv : v'.ownBlock = vA.ownBlock ∨ v'.ownBlock = some w.heap.size) : Tw w' B T e vW wl v' al' := by
  have hlt := h.row.lt
  refine ⟨(gr.block T hlt (fun q => h.ta q.symm)).trans h.row, h.ow.grown gr (fun b hb q => h.ap b hb q), hO, fun b hb q => ?_, h.tw, fun q => ?_⟩
  · rcases hv with e1 | e1
    · exact h.ap b hb (e1 ▸ q)
    · have := (World.ownsRow.lt h.ow b hb).2
      rw [e1] at q; cases q; omega
  · rcases hv with e1 | e1
    · exact h.ta (e1 ▸ q)
    · rw [e1] at q; cases q; omega
theorem Tw.growW {w w' : World} {B T : Nat} {e : En} {vW vA v' : Value} {wl al wl' : List En} (h : Tw w B T e vW wl vA al) (hO : OwnE w' B v' wl') (gr : w.grownBy w' vW.ownBlock) (hv : v'.ownBlock = vW.ownBlock ∨ v'.ownBlock = some w.heap.size) : Tw w' B T e v' wl' vA al := by
  have hlt := h.row.lt
  refine ⟨(gr.block T hlt (fun q => h.tw q.symm)).trans h.row, hO, h.oa.grown gr (fun b hb q => h.ap b q hb), fun b hb q => ?_, fun q => ?_, h.ta⟩
  · rcases hv with e1 | e1
    · exact h.ap b (e1 ▸ hb) q
    · have := (World.ownsRow.lt h.oa b q).2
      rw [e1] at hb; cases hb; omega
  · rcases hv with e1 | e1
    · exact h.tw (e1 ▸ q)
    · rw [e1] at q; cases q; omega
/-- Of another page. -/
def offP (u : Bool) (no : Int) (e : En) : En := ⟨e.lsn, { e.r with undo := u, no := no }⟩
theorem En.set23 (e : En) (u : Bool) (n : Int) : (e.arr.setIfInBounds 2 (.bool u)).setIfInBounds 3 (.int .u16 n) = (offP u n e).arr := by simp [offP, En.arr, En.cells, R.cells, R.tail]
theorem Tw.turn {w : World} {B T : Nat} {e : En} {vW vA : Value} {wl al : List En} (h : Tw w B T e vW wl vA al) (u : Bool) (n : Int) : Tw ((w.setCell ⟨T, 2, none⟩ (.bool u)).setCell ⟨T, 3, none⟩ (.int .u16 n)) B T (offP u n e) vW wl vA al := by
  refine ⟨?_, OwnE.carry h.ow fun b cs hb hr => ?_, OwnE.carry h.oa fun b cs hb hr => ?_, h.ap, h.tw, h.ta⟩
  · have := row_set (row_set h.row 2 (.bool u)) 3 (.int .u16 n)
    rw [En.set23] at this
    exact this
  · have hT : b ≠ T := fun q => h.tw (q ▸ hb)
    exact row_setCell_other (row_setCell_other hr hT 2 (.bool u)) hT 3 (.int .u16 n)
  · have hT : b ≠ T := fun q => h.ta (q ▸ hb)
    exact row_setCell_other (row_setCell_other hr hT 2 (.bool u)) hT 3 (.int .u16 n)
def cR : R := { R.zero with kind := 6, ts := 7 }
theorem built37c : Try.prog.built 37 [(0, .int .u8 6), (3, .int .u32 7)] = some cR.arr := by kernel_rfl
theorem cR_len : cR.img.length = 224 := zs_length _
theorem cR_fits : cR.Fits := ⟨by decide, by decide, zs_length _, zs_bytes _, by decide, by decide, by decide, by decide, Nat.zero_le _, ⟨by decide, by decide, by decide, by decide⟩, Nat.zero_le _⟩
/-- What a round leaves of the logs. -/
structure Mix (u : Bool) (no : Int) (k : Nat) (wl al : List En) : Prop where
  eq : (al.filter fun e => aboutR u no e.r) = (wl.filter fun e => aboutR u no e.r)
  fw : ∀ e ∈ wl, e.Fits
  fa : ∀ e ∈ al, e.Fits
  lw : wl.length ≤ k
  la : al.length ≤ 3 * k
theorem Mix.step {u : Bool} {no : Int} {k : Nat} {wl al : List En} (h : Mix u no k wl al) (u2 : Bool) (on : Int) (hne : ¬ (u = u2 ∧ no = on)) (hon : 0 ≤ on ∧ on ≤ 65535) (e : En) (he : e.Fits) (hk : k ≤ 60) (m1 m2 : List En)
    (h1 : m1 = [] ∧ m2 = [] ∨ m1 = [e] ∧ m2 = [e] ∨ m1 = [] ∧ m2 = [e] ∧ e.r.kind = 6) : Mix u no (k + 1) (wl ++ m1) ((al ++ m2) ++ [offP u2 on e, ⟨k, cR⟩]) := by
  have a1 : aboutR u no (offP u2 on e).r = false := by
    unfold aboutR offP
    simp
    intro _ q1 q2
    exact hne ⟨q1.symm, q2.symm⟩
  have a2 : aboutR u no cR = false := by simp [aboutR, cR]
  have f1 : (offP u2 on e).Fits := ⟨he.lsn, ⟨he.r.kind, hon, he.r.len, he.r.img, he.r.ts, he.r.pp, he.r.ps, he.r.slot, he.r.delta, he.r.old, he.r.odelta⟩⟩
  have f2 : (⟨k, cR⟩ : En).Fits := ⟨by show 0 ≤ (k : Int) ∧ (k : Int) ≤ 18446744073709551615; omega, cR_fits⟩
  have hl1 := h.lw
  have hl2 := h.la
  refine ⟨?_, fun x hx => ?_, fun x hx => ?_, ?_, ?_⟩
  · rw [List.filter_append, List.filter_append, List.filter_append, h.eq]
    rcases h1 with ⟨rfl, rfl⟩ | ⟨rfl, rfl⟩ | ⟨rfl, rfl, h6⟩
    · simp [a1, a2]
    · simp [a1, a2]
    · have a3 : aboutR u no e.r = false := by simp [aboutR, h6]
      simp [a1, a2, a3]
  · rcases List.mem_append.1 hx with hx | hx
    · exact h.fw x hx
    · rcases h1 with ⟨rfl, rfl⟩ | ⟨rfl, rfl⟩ | ⟨rfl, rfl, h6⟩
      · cases hx
      · obtain rfl : x = e := by simpa using hx
        exact he
      · cases hx
  · rcases List.mem_append.1 hx with hx | hx
    · rcases List.mem_append.1 hx with hx | hx
      · exact h.fa x hx
      · rcases h1 with ⟨rfl, rfl⟩ | ⟨rfl, rfl⟩ | ⟨rfl, rfl, h6⟩
        · cases hx
        · obtain rfl : x = e := by simpa using hx
          exact he
        · obtain rfl : x = e := by simpa using hx
          exact he
    · simp at hx
      rcases hx with rfl | rfl
      · exact f1
      · exact f2
  · rcases h1 with ⟨rfl, rfl⟩ | ⟨rfl, rfl⟩ | ⟨rfl, rfl, h6⟩ <;> simp <;> omega
  · rcases h1 with ⟨rfl, rfl⟩ | ⟨rfl, rfl⟩ | ⟨rfl, rfl, h6⟩ <;> simp <;> omega
theorem Log.at {w : World} {oa : Option Addr} {n cap : Nat} {es : List En} (h : Log w (.slice oa n cap) es) (k : Nat) (hk : k < es.length) : ∃ a e, oa = some a ∧ es[k]? = some e ∧ ∀ j x, e.cells[j]? = some x → w.cell? ((a.add (k * 239)).add j) = some x := by
  obtain ⟨oa', cap', h1, h2⟩ := h.hold
  cases h1
  exact h2 k hk

set_option maxHeartbeats 8000000 in
theorem walk (w : World) (u : Bool) (no : Int) (u2 : Bool) (on : Int) (p : List Int) (v : Value) (es : List En) (hno : 0 ≤ no ∧ no ≤ 65535) (hon : 0 ≤ on ∧ on ≤ 65535) (hp : p.length = 224) (hb : Bytes p) (hl : Log w v es ∧ (∀ e ∈ es, e.Fits) ∧ es.length * 304 ≤ 140737488355328) :
    Calls Try.prog 6 #[.agg #[.bool u, .int .u16 no], .agg #[.bool u2, .int .u16 on], .agg (bs p), v] w fun e w' => e = .returned (.bool true) ∧ Below w.heap.size w w' := by
  have hze := zero39
  obtain ⟨hlg, hft, hsz⟩ := hl
  have HRP : Hid _ := fun q v es w => replay_any u no q v es w hno
  have HAW : Hid _ := fun w => awake_any w
  have hpb : (bs p).size = 224 := by rw [bs_size, hp]
  obtain ⟨s0, HS⟩ : ∃ s, Hid (w.heap.size = s) := ⟨_, rfl⟩
  have r0 : Row (((w.alloc (.cells #[.bool u, .int .u16 no] 24)).alloc (.cells #[.bool u2, .int .u16 on] 24)).alloc (.cells (bs p) 26)) s0 #[.bool u, .int .u16 no] 24 := by rw [← HS.out]; exact ((Row.new _ _ _).alloc _).alloc _
  have r1 : Row (((w.alloc (.cells #[.bool u, .int .u16 no] 24)).alloc (.cells #[.bool u2, .int .u16 on] 24)).alloc (.cells (bs p) 26)) (s0 + 1) #[.bool u2, .int .u16 on] 24 := by rw [← HS.out]; have := (Row.new (w.alloc (.cells #[.bool u, .int .u16 no] 24)) #[.bool u2, .int .u16 on] 24).alloc (.cells (bs p) 26); simpa using this
  have r2 : Row (((w.alloc (.cells #[.bool u, .int .u16 no] 24)).alloc (.cells #[.bool u2, .int .u16 on] 24)).alloc (.cells (bs p) 26)) (s0 + 1 + 1) (bs p) 26 := by rw [← HS.out]; have := Row.new ((w.alloc (.cells #[.bool u, .int .u16 no] 24)).alloc (.cells #[.bool u2, .int .u16 on] 24)) (bs p) 26; simpa using this
  have ab : Below w.heap.size w (((w.alloc (.cells #[.bool u, .int .u16 no] 24)).alloc (.cells #[.bool u2, .int .u16 on] 24)).alloc (.cells (bs p) 26)) := (((Below.refl _ _).alloc (Nat.le_refl _) _).alloc (by simp) _).alloc (by simp; omega) _
  have hlg := hlg.keep ab
  obtain ⟨oa, cap, rfl, hcs⟩ := hlg.hold
  obtain ⟨n, HN⟩ : ∃ n, Hid (es.length = n) := ⟨_, rfl⟩
  rw [HN.out] at hlg hsz ⊢
  have HLG : Hid (Log (((w.alloc (.cells #[.bool u, .int .u16 no] 24)).alloc (.cells #[.bool u2, .int .u16 on] 24)).alloc (.cells (bs p) 26)) (.slice oa n cap) es) := hlg
  clear hlg hcs
  have HFT : Hid (∀ e ∈ es, e.Fits) := hft
  clear hft
  go_enter Try.func6, Try.ntmps6
  go_upto_region 1 with fail
  rw [HS.out]
  obtain ⟨g2, HG2⟩ : ∃ g, Hid (s0 + 1 + 1 = g) := ⟨_, rfl⟩
  rw [HG2.out] at r2 ⊢
  obtain ⟨g1, HG1⟩ : ∃ g, Hid (s0 + 1 = g) := ⟨_, rfl⟩
  rw [HG1.out] at r1 HG2 ⊢
  have d1 : s0 < g1 := by rw [← HG1.out]; omega
  have d2 : g1 < g2 := by rw [← HG2.out]; omega
  generalize ((w.alloc (.cells #[.bool u, .int .u16 no] 24)).alloc (.cells #[.bool u2, .int .u16 on] 24)).alloc (.cells (bs p) 26) = w1 at r0 r1 r2 ab HLG ⊢
  have hid := equal24 u u2 no on
  by_cases hne : u = u2 ∧ no = on
  · rw [show (decide (u = u2) && decide (no = on)) = true by simp [hne]] at hid
    clear hne
    go_wp2_with (first
      | (refine load_cells rfl 24 (.tmp 4) rfl s0 rfl 24 #[.bool u, .int .u16 no] r0 2 Try.underlying24 rfl size24 rfl ?_)
      | (refine load_cells rfl 24 (.tmp 5) rfl g1 rfl 24 #[.bool u2, .int .u16 on] r1 2 Try.underlying24 rfl size24 rfl ?_)
      | (go_at_call 7; refine (HAW.out _).mono ?_; rintro e w9 ⟨rfl, hx⟩; have ab := ab.trans (hx.mono ab.size)))
    go_ret
    exact ⟨rfl, ab⟩
  · rw [show (decide (u = u2) && decide (no = on)) = false by
      cases hq : (decide (u = u2) && decide (no = on)) with
      | false => rfl
      | true => simp at hq; exact absurd hq hne] at hid
    have HNE : Hid (¬ (u = u2 ∧ no = on)) := hne
    clear hne
    by_cases h60 : (60 : Int) < n
    · go_wp2_with (first
        | (refine load_cells rfl 24 (.tmp 4) rfl s0 rfl 24 #[.bool u, .int .u16 no] r0 2 Try.underlying24 rfl size24 rfl ?_)
        | (refine load_cells rfl 24 (.tmp 5) rfl g1 rfl 24 #[.bool u2, .int .u16 on] r1 2 Try.underlying24 rfl size24 rfl ?_)
        | (go_at_call 7; refine (HAW.out _).mono ?_; rintro e w9 ⟨rfl, hx⟩; have ab := ab.trans (hx.mono ab.size)))
      go_ret
      exact ⟨rfl, ab⟩
    · go_upto_region 5 with (first
        | (refine load_cells rfl 24 (.tmp 4) rfl s0 rfl 24 #[.bool u, .int .u16 no] r0 2 Try.underlying24 rfl size24 rfl ?_)
        | (refine load_cells rfl 24 (.tmp 5) rfl g1 rfl 24 #[.bool u2, .int .u16 on] r1 2 Try.underlying24 rfl size24 rfl ?_))
      have hX2 : g2 < w1.heap.size := r2.lt
      obtain ⟨B, HB⟩ : ∃ B, Hid (w1.heap.size = B) := ⟨_, rfl⟩
      rw [HB.out] at hX2
      have HSB : Hid (w.heap.size ≤ B) := by show _ ≤ _; rw [← HB.out]; exact ab.size
      go_loopw [9, 10, 24] (fun vW vA i wr => ∃ (k : Nat) (wl al : List En), k ≤ n ∧ i = .int .i64 k ∧ OwnE wr B vW wl ∧ OwnE wr B vA al ∧ (∀ b, vW.ownBlock = some b → vA.ownBlock ≠ some b) ∧ Mix u no k wl al ∧ Below B w1 wr) (fun _ _ i _ => n - (intOf i).toNat)
      case atStart => exact ⟨0, [], [], by omega, rfl, OwnE.nil _ _, OwnE.nil _ _, fun b hb => by simp [Value.ownBlock] at hb, ⟨rfl, by simp, by simp, by simp, by simp⟩, Below.refl _ _⟩
      case round =>
        obtain ⟨k, wl, al, hk, rfl, oW, oA, hap, hmx, bX⟩ := hrel
        obtain ⟨oaW, capW, rfl⟩ := oW.form
        obtain ⟨oaA, capA, rfl⟩ := oA.form
        have hlw := hmx.lw
        have hla := hmx.la
        have HMX : Hid (Mix u no k wl al) := hmx
        clear hmx
        obtain ⟨nW, HNW⟩ : ∃ nW, Hid (wl.length = nW) := ⟨_, rfl⟩
        obtain ⟨nA, HNA⟩ : ∃ nA, Hid (al.length = nA) := ⟨_, rfl⟩
        rw [HNW.out] at oW hap hlw ⊢
        rw [HNA.out] at oA hap hla ⊢
        have r0 := r0.below bX (by omega)
        have r1 := r1.below bX (by omega)
        have r2 := r2.below bX (by omega)
        by_cases hkn : k < n
        · have hkn' : (k : Int) < (n : Int) := by omega
          obtain ⟨a, e, rfl, he, hcell⟩ := Log.at (HLG.out.keep (HB.out ▸ bX)) k (by rw [HN.out]; exact hkn)
          have hfe := HFT.out e (List.mem_of_getElem? he)
          have hlen := hfe.r.len
          clear he
          obtain ⟨T, HT⟩ : ∃ T, Hid (wr.heap.size = T) := ⟨_, rfl⟩
          have tl : Hid (1 = 1) := rfl
          have q1 : Row (wr.alloc (.cells En.zero.arr 39)) wr.heap.size En.zero.arr 39 := Row.new _ _ _
          go_upto_region 7 with (first
            | (have hh := tl; clear hh tl; refine wpList_load_any rfl 39 (.tmp 27) rfl (a.add (k * 239)) rfl e.cells _ hcell Try.underlying39 rfl (by rw [size39, En.cells_length _ hfe.r.len]) ?_)
            | (refine store_cells rfl 39 (.tmp 12) (.tmp 28) rfl wr.heap.size e.arr rfl rfl 39 _ q1 239 size39 (En.arr_size _ (zs_length _)) (e.arr_size hfe.r.len) e.arr_one ?_))
          have hbW : Below wr.heap.size wr ((wr.alloc (.cells En.zero.arr 39)).setRow wr.heap.size e.arr) := below_setRow ((Below.refl _ _).alloc (Nat.le_refl _) _) (Nat.le_refl _) _
          have hwr := bX.size
          have tw : Tw ((wr.alloc (.cells En.zero.arr 39)).setRow wr.heap.size e.arr) B wr.heap.size e (.slice oaW nW capW) wl (.slice oaA nA capA) al :=
            ⟨q1.set e.arr, oW.keep hbW, oA.keep hbW, hap, fun q => absurd (World.ownsRow.lt oW _ q).2 (Nat.lt_irrefl _), fun q => absurd (World.ownsRow.lt oA _ q).2 (Nat.lt_irrefl _)⟩
          rw [HB.out] at hwr
          have r0 := r0.below hbW r0.lt
          have r1 := r1.below hbW r1.lt
          have bX := bX.trans (hbW.mono (by omega))
          clear q1 hcell oW oA hap hbW
          generalize (wr.alloc (.cells En.zero.arr 39)).setRow wr.heap.size e.arr = w5 at tw r0 r1 bX ⊢
          rw [HT.out] at tw hwr ⊢
          have c1 := row_at tw.row 1 _ ((e.atR 0).trans e.r.at0)
          have hm := mid_row tw.row 2 [.bool e.r.undo, .int .u16 e.r.no] (fun j v h => by
            match j, h with
            | 0, h => rw [← h]; exact (e.atR 1).trans e.r.at1
            | 1, h => rw [← h]; exact (e.atR 2).trans e.r.at2)
          have heq := equal24 e.r.undo u e.r.no no
          have hea : e.arr.size = 239 := e.arr_size hlen
          by_cases h6 : e.r.kind = 6
          · as_aux_lemma => (
              have t6 : (e.r.kind == 6) = true := by simp [h6]
              have t6n : (e.r.kind != 6) = false := by simp [h6]
              have H6 : Hid (e.r.kind = 6) := h6
              clear h6
              go_upto_region 8 with fail
              have bA := (Below.refl w5.heap.size w5).alloc (Nat.le_refl _) (.cells e.arr 39)
              have rowE := tw.row
              have tw := tw.keep bA
              have hsz7 := bX.size
              rw [HB.out] at hsz7
              have bX := bX.trans (bA.mono (by omega))
              have r0 := r0.below bA r0.lt
              have r1 := r1.below bA r1.lt
              have hbs : B ≤ (w5.alloc (.cells e.arr 39)).heap.size := by have := bA.size; omega
              have HR : Hid _ := fun ty => tw.oa.more ty w5.heap.size 1 [e] rfl (by simpa using hlen) (by rw [flatE_arr]; exact Row.new _ _ _) hbs (by rw [HNA.out]; omega)
              have HLT : Hid _ := fun b hb => (World.ownsRow.lt tw.oa b hb).1
              have t0 : Hid (2 = 2) := rfl
              clear bA
              go_upto_region 9 with (first
                | (have hh := t0; clear hh t0; refine load_cells rfl 39 (.tmp 12) rfl T rfl 39 _ rowE 239 Try.underlying39 rfl size39 hea ?_; have t1 : Hid (2 = 2) := rfl)
                | (have hh := t1; clear hh t1; refine wpList_slice_one rfl (.tmp 41) rfl e hlen rfl ?_; have t2 : Hid (2 = 2) := rfl)
                | (have hh := t2; clear hh t2; at_builtin; refine wpList_copy rfl (.tmp 40) (.tmp 42) 27 rfl _ _ rfl rfl (T := fun v' w' => OwnE w' B v' (al ++ [e]) ∧ (w5.alloc (.cells e.arr 39)).grownBy w' (Value.slice oaA nA capA).ownBlock ∧ (v'.ownBlock = (Value.slice oaA nA capA).ownBlock ∨ v'.ownBlock = some (w5.alloc (.cells e.arr 39)).heap.size)) (fun ty => HR.out ty) ?_
                   intro v7 w7 hT
                   obtain ⟨hO7, gr, hv7⟩ := hT
                   obtain ⟨oa7, cap7, rfl⟩ := hO7.form
                   obtain ⟨n7, HN7⟩ : ∃ n7, Hid ((al ++ [e]).length = n7) := ⟨_, rfl⟩
                   rw [HN7.out] at hO7 hv7 ⊢))
              have tw := tw.growA hO7 gr hv7
              have r0 : Row w7 s0 #[.bool u, .int .u16 no] 24 := (gr.block s0 r0.lt (fun q => by have := HLT.out s0 q.symm; omega)).trans r0
              have r1 : Row w7 g1 #[.bool u2, .int .u16 on] 24 := (gr.block g1 r1.lt (fun q => by have := HLT.out g1 q.symm; omega)).trans r1
              have bX := bX.grown gr hbs (fun b hb => HLT.out b hb)
              have hn7 : n7 ≤ 181 := by rw [← HN7.out, List.length_append, HNA.out]; simp; omega
              clear hO7 gr hv7 HR HLT hbs rowE
              have c1 := row_at tw.row 1 _ ((e.atR 0).trans e.r.at0)
              have hm := mid_row tw.row 2 [.bool e.r.undo, .int .u16 e.r.no] (fun j v h => by
                match j, h with
                | 0, h => rw [← h]; exact (e.atR 1).trans e.r.at1
                | 1, h => rw [← h]; exact (e.atR 2).trans e.r.at2)
              go_upto_region 11 with fail
              have c2 := row_at tw.row 2 _ ((e.atR 1).trans e.r.at1)
              have c3 := row_at tw.row 3 _ ((e.atR 2).trans e.r.at2)
              have f2 := row_frozen tw.row 2
              have f3 := row_frozen tw.row 3
              have t0 : Hid (2 = 2) := rfl
              go_upto_region 12 with (first
                | (have hh := t0; clear hh t0; refine load_cells rfl 24 (.tmp 5) rfl g1 rfl 24 #[.bool u2, .int .u16 on] r1 2 Try.underlying24 rfl size24 rfl ?_))
              have tw := tw.turn u2 on
              have bX := (bX.setCell (p := ⟨T, 2, none⟩) (by show B ≤ T; omega) (.bool u2)).setCell (p := ⟨T, 3, none⟩) (by show B ≤ T; omega) (.int .u16 on)
              clear c1 hm c2 c3 f2 f3 r0 r1
              generalize (w7.setCell ⟨T, 2, none⟩ (.bool u2)).setCell ⟨T, 3, none⟩ (.int .u16 on) = w10 at tw bX ⊢
              obtain ⟨E2, HE2⟩ : ∃ E2, Hid (offP u2 on e = E2) := ⟨_, rfl⟩
              rw [HE2.out] at tw
              have hE2 : E2.r.img.length = 224 := by rw [← HE2.out]; exact hlen
              have hE2s : E2.arr.size = 239 := E2.arr_size hE2
              obtain ⟨EC, HEC⟩ : ∃ EC : En, Hid ((⟨k, cR⟩ : En) = EC) := ⟨_, rfl⟩
              have hEC : EC.r.img.length = 224 := by rw [← HEC.out]; exact cR_len
              have HB3 : Hid (Try.prog.built 39 [(0, .int .u64 k), (1, .agg cR.arr)] = some EC.arr) := by show _ = _; rw [← HEC.out]; exact built39 k cR cR_len
              have HB1 : Hid (Try.prog.built 37 [(0, .int .u8 6), (3, .int .u32 7)] = some cR.arr) := built37c
              generalize cR.arr = CA at HB1 HB3
              have e1 : IntKind.u64.wrap (k : Int) = k := by rw [IntKind.wrap_u64]; omega
              have rowE := tw.row
              have bA := (Below.refl w10.heap.size w10).alloc (Nat.le_refl _) (.cells (flatE [E2, EC]).toArray 39)
              have tw := tw.keep bA
              have hsz9 := bX.size
              rw [HB.out] at hsz9
              have bX := bX.trans (bA.mono (by omega))
              have hbs : B ≤ (w10.alloc (.cells (flatE [E2, EC]).toArray 39)).heap.size := by have := bA.size; omega
              have HR : Hid _ := fun ty => tw.oa.more ty w10.heap.size 2 [E2, EC] rfl (by simp [hE2, hEC]) (Row.new _ _ _) hbs (by rw [HN7.out]; omega)
              have HLT : Hid _ := fun b hb => (World.ownsRow.lt tw.oa b hb).1
              have HMS : Hid (Mix u no (k + 1) (wl ++ []) ((al ++ [e]) ++ [E2, EC])) := by
                show Mix _ _ _ _ _
                have := HMX.out.step u2 on HNE.out hon e hfe (by omega) [] [e] (Or.inr (Or.inr ⟨rfl, rfl, H6.out⟩))
                rw [HE2.out, HEC.out] at this
                exact this
              rw [List.append_nil] at HMS
              have t0 : Hid (2 = 2) := rfl
              clear bA hea
              go_wp2_with (first
                | (have hh := t0; clear hh t0; refine load_cells rfl 39 (.tmp 12) rfl T rfl 39 _ rowE 239 Try.underlying39 rfl size39 hE2s ?_; have t1 : Hid (2 = 2) := rfl)
                | (have hh := t1; clear hh t1; refine build_parts rfl 37 #[(0, .const (.int .u8 6)), (3, .const (.int .u32 7))] rfl [(0, .int .u8 6), (3, .int .u32 7)] rfl _ HB1.out ?_; have t2 : Hid (2 = 2) := rfl)
                | (have hh := t2; clear hh t2; refine build_parts rfl 39 #[(0, .tmp 65), (1, .tmp 66)] rfl [(0, .int .u64 k), (1, .agg CA)] rfl _ HB3.out ?_; have t3 : Hid (2 = 2) := rfl)
                | (have hh := t3; clear hh t3; refine wpList_slice_two rfl (.tmp 63) (.tmp 67) rfl E2 EC hE2 hEC rfl rfl ?_; have t4 : Hid (2 = 2) := rfl)
                | (have hh := t4; clear hh t4; at_builtin; refine wpList_copy rfl (.tmp 62) (.tmp 68) 27 rfl _ _ rfl rfl (T := fun v' w' => OwnE w' B v' ((al ++ [e]) ++ [E2, EC]) ∧ (w10.alloc (.cells (flatE [E2, EC]).toArray 39)).grownBy w' (Value.slice oa7 n7 cap7).ownBlock ∧ (v'.ownBlock = (Value.slice oa7 n7 cap7).ownBlock ∨ v'.ownBlock = some (w10.alloc (.cells (flatE [E2, EC]).toArray 39)).heap.size)) (fun ty => HR.out ty) ?_
                   intro v9 w11 hT
                   obtain ⟨hO9, gr9, hv9⟩ := hT))
              have tw := tw.growA hO9 gr9 hv9
              have bX := bX.grown gr9 hbs (fun b hb => HLT.out b hb)
              go_roundw
              case rel => exact ⟨k + 1, _, _, by omega, by go_num, tw.ow, tw.oa, tw.ap, HMS.out, bX⟩
              case measure => simp [intOf]; omega)
          · have t6 : (e.r.kind == 6) = false := by simp [h6]
            have t6n : (e.r.kind != 6) = true := by simp [h6]
            clear h6
            by_cases hpg : e.r.undo = u ∧ e.r.no = no
            · as_aux_lemma => (
                rw [show (decide (e.r.undo = u) && decide (e.r.no = no)) = true by simp [hpg]] at heq
                go_upto_region 8 with (first
                  | (refine load_any_g rfl 24 (.tmp 35) rfl ⟨T, 2, none⟩ rfl [.bool e.r.undo, .int .u16 e.r.no] _ hm Try.underlying24 rfl size24 ?_)
                  | (refine load_cells_g rfl 24 (.tmp 4) rfl s0 rfl 24 #[.bool u, .int .u16 no] r0 2 Try.underlying24 rfl size24 rfl ?_))
                have bA := (Below.refl w5.heap.size w5).alloc (Nat.le_refl _) (.cells e.arr 39)
                have rowE := tw.row
                have tw := tw.keep bA
                have hsz7 := bX.size
                rw [HB.out] at hsz7
                have bX := bX.trans (bA.mono (by omega))
                have r0 := r0.below bA r0.lt
                have r1 := r1.below bA r1.lt
                have hbs : B ≤ (w5.alloc (.cells e.arr 39)).heap.size := by have := bA.size; omega
                have HR : Hid _ := fun ty => tw.oa.more ty w5.heap.size 1 [e] rfl (by simpa using hlen) (by rw [flatE_arr]; exact Row.new _ _ _) hbs (by rw [HNA.out]; omega)
                have HLT : Hid _ := fun b hb => (World.ownsRow.lt tw.oa b hb).1
                have t0 : Hid (2 = 2) := rfl
                clear bA
                go_upto_region 9 with (first
                  | (have hh := t0; clear hh t0; refine load_cells rfl 39 (.tmp 12) rfl T rfl 39 _ rowE 239 Try.underlying39 rfl size39 hea ?_; have t1 : Hid (2 = 2) := rfl)
                  | (have hh := t1; clear hh t1; refine wpList_slice_one rfl (.tmp 41) rfl e hlen rfl ?_; have t2 : Hid (2 = 2) := rfl)
                  | (have hh := t2; clear hh t2; at_builtin; refine wpList_copy rfl (.tmp 40) (.tmp 42) 27 rfl _ _ rfl rfl (T := fun v' w' => OwnE w' B v' (al ++ [e]) ∧ (w5.alloc (.cells e.arr 39)).grownBy w' (Value.slice oaA nA capA).ownBlock ∧ (v'.ownBlock = (Value.slice oaA nA capA).ownBlock ∨ v'.ownBlock = some (w5.alloc (.cells e.arr 39)).heap.size)) (fun ty => HR.out ty) ?_
                     intro v7 w7 hT
                     obtain ⟨hO7, gr, hv7⟩ := hT
                     obtain ⟨oa7, cap7, rfl⟩ := hO7.form
                     obtain ⟨n7, HN7⟩ : ∃ n7, Hid ((al ++ [e]).length = n7) := ⟨_, rfl⟩
                     rw [HN7.out] at hO7 hv7 ⊢))
                have tw := tw.growA hO7 gr hv7
                have r0 : Row w7 s0 #[.bool u, .int .u16 no] 24 := (gr.block s0 r0.lt (fun q => by have := HLT.out s0 q.symm; omega)).trans r0
                have r1 : Row w7 g1 #[.bool u2, .int .u16 on] 24 := (gr.block g1 r1.lt (fun q => by have := HLT.out g1 q.symm; omega)).trans r1
                have bX := bX.grown gr hbs (fun b hb => HLT.out b hb)
                have hn7 : n7 ≤ 181 := by rw [← HN7.out, List.length_append, HNA.out]; simp; omega
                clear hO7 gr hv7 HR HLT hbs rowE
                have c1 := row_at tw.row 1 _ ((e.atR 0).trans e.r.at0)
                have hm := mid_row tw.row 2 [.bool e.r.undo, .int .u16 e.r.no] (fun j v h => by
                  match j, h with
                  | 0, h => rw [← h]; exact (e.atR 1).trans e.r.at1
                  | 1, h => rw [← h]; exact (e.atR 2).trans e.r.at2)
                go_upto_region 10 with (first
                  | (refine load_any_g rfl 24 (.tmp 50) rfl ⟨T, 2, none⟩ rfl [.bool e.r.undo, .int .u16 e.r.no] _ hm Try.underlying24 rfl size24 ?_)
                  | (refine load_cells_g rfl 24 (.tmp 4) rfl s0 rfl 24 #[.bool u, .int .u16 no] r0 2 Try.underlying24 rfl size24 rfl ?_))
                have bA := (Below.refl w7.heap.size w7).alloc (Nat.le_refl _) (.cells e.arr 39)
                have rowE := tw.row
                have tw := tw.keep bA
                have hsz8 := bX.size
                rw [HB.out] at hsz8
                have bX := bX.trans (bA.mono (by omega))
                have r0 := r0.below bA r0.lt
                have r1 := r1.below bA r1.lt
                have hbs : B ≤ (w7.alloc (.cells e.arr 39)).heap.size := by have := bA.size; omega
                have HR : Hid _ := fun ty => tw.ow.more ty w7.heap.size 1 [e] rfl (by simpa using hlen) (by rw [flatE_arr]; exact Row.new _ _ _) hbs (by rw [HNW.out]; omega)
                have HLT : Hid _ := fun b hb => (World.ownsRow.lt tw.ow b hb).1
                have t0 : Hid (2 = 2) := rfl
                clear bA
                go_upto_region 11 with (first
                  | (have hh := t0; clear hh t0; refine load_cells rfl 39 (.tmp 12) rfl T rfl 39 _ rowE 239 Try.underlying39 rfl size39 hea ?_; have t1 : Hid (2 = 2) := rfl)
                  | (have hh := t1; clear hh t1; refine wpList_slice_one rfl (.tmp 56) rfl e hlen rfl ?_; have t2 : Hid (2 = 2) := rfl)
                  | (have hh := t2; clear hh t2; at_builtin; refine wpList_copy rfl (.tmp 55) (.tmp 57) 27 rfl _ _ rfl rfl (T := fun v' w' => OwnE w' B v' (wl ++ [e]) ∧ (w7.alloc (.cells e.arr 39)).grownBy w' (Value.slice oaW nW capW).ownBlock ∧ (v'.ownBlock = (Value.slice oaW nW capW).ownBlock ∨ v'.ownBlock = some (w7.alloc (.cells e.arr 39)).heap.size)) (fun ty => HR.out ty) ?_
                     intro v7 w8 hT
                     obtain ⟨hO7, gr, hv7⟩ := hT
                     obtain ⟨oa8, cap8, rfl⟩ := hO7.form
                     obtain ⟨n8, HN8⟩ : ∃ n7, Hid ((wl ++ [e]).length = n7) := ⟨_, rfl⟩
                     rw [HN8.out] at hO7 hv7 ⊢))
                have tw := tw.growW hO7 gr hv7
                have r0 : Row w8 s0 #[.bool u, .int .u16 no] 24 := (gr.block s0 r0.lt (fun q => by have := HLT.out s0 q.symm; omega)).trans r0
                have r1 : Row w8 g1 #[.bool u2, .int .u16 on] 24 := (gr.block g1 r1.lt (fun q => by have := HLT.out g1 q.symm; omega)).trans r1
                have bX := bX.grown gr hbs (fun b hb => HLT.out b hb)
                have hn8 : n8 ≤ 181 := by rw [← HN8.out, List.length_append, HNW.out]; simp; omega
                clear hO7 gr hv7 HR HLT hbs rowE
                have c1 := row_at tw.row 1 _ ((e.atR 0).trans e.r.at0)
                have hm := mid_row tw.row 2 [.bool e.r.undo, .int .u16 e.r.no] (fun j v h => by
                  match j, h with
                  | 0, h => rw [← h]; exact (e.atR 1).trans e.r.at1
                  | 1, h => rw [← h]; exact (e.atR 2).trans e.r.at2)
                have c2 := row_at tw.row 2 _ ((e.atR 1).trans e.r.at1)
                have c3 := row_at tw.row 3 _ ((e.atR 2).trans e.r.at2)
                have f2 := row_frozen tw.row 2
                have f3 := row_frozen tw.row 3
                have t0 : Hid (2 = 2) := rfl
                go_upto_region 12 with (first
                  | (have hh := t0; clear hh t0; refine load_cells rfl 24 (.tmp 5) rfl g1 rfl 24 #[.bool u2, .int .u16 on] r1 2 Try.underlying24 rfl size24 rfl ?_))
                have tw := tw.turn u2 on
                have bX := (bX.setCell (p := ⟨T, 2, none⟩) (by show B ≤ T; omega) (.bool u2)).setCell (p := ⟨T, 3, none⟩) (by show B ≤ T; omega) (.int .u16 on)
                clear c1 hm c2 c3 f2 f3 r0 r1
                generalize (w8.setCell ⟨T, 2, none⟩ (.bool u2)).setCell ⟨T, 3, none⟩ (.int .u16 on) = w10 at tw bX ⊢
                obtain ⟨E2, HE2⟩ : ∃ E2, Hid (offP u2 on e = E2) := ⟨_, rfl⟩
                rw [HE2.out] at tw
                have hE2 : E2.r.img.length = 224 := by rw [← HE2.out]; exact hlen
                have hE2s : E2.arr.size = 239 := E2.arr_size hE2
                obtain ⟨EC, HEC⟩ : ∃ EC : En, Hid ((⟨k, cR⟩ : En) = EC) := ⟨_, rfl⟩
                have hEC : EC.r.img.length = 224 := by rw [← HEC.out]; exact cR_len
                have HB3 : Hid (Try.prog.built 39 [(0, .int .u64 k), (1, .agg cR.arr)] = some EC.arr) := by show _ = _; rw [← HEC.out]; exact built39 k cR cR_len
                have HB1 : Hid (Try.prog.built 37 [(0, .int .u8 6), (3, .int .u32 7)] = some cR.arr) := built37c
                generalize cR.arr = CA at HB1 HB3
                have e1 : IntKind.u64.wrap (k : Int) = k := by rw [IntKind.wrap_u64]; omega
                have rowE := tw.row
                have bA := (Below.refl w10.heap.size w10).alloc (Nat.le_refl _) (.cells (flatE [E2, EC]).toArray 39)
                have tw := tw.keep bA
                have hsz9 := bX.size
                rw [HB.out] at hsz9
                have bX := bX.trans (bA.mono (by omega))
                have hbs : B ≤ (w10.alloc (.cells (flatE [E2, EC]).toArray 39)).heap.size := by have := bA.size; omega
                have HR : Hid _ := fun ty => tw.oa.more ty w10.heap.size 2 [E2, EC] rfl (by simp [hE2, hEC]) (Row.new _ _ _) hbs (by rw [HN7.out]; omega)
                have HLT : Hid _ := fun b hb => (World.ownsRow.lt tw.oa b hb).1
                have HMS : Hid (Mix u no (k + 1) (wl ++ [e]) ((al ++ [e]) ++ [E2, EC])) := by
                  show Mix _ _ _ _ _
                  have := HMX.out.step u2 on HNE.out hon e hfe (by omega) [e] [e] (Or.inr (Or.inl ⟨rfl, rfl⟩))
                  rw [HE2.out, HEC.out] at this
                  exact this

                have t0 : Hid (2 = 2) := rfl
                clear bA hea
                go_wp2_with (first
                  | (have hh := t0; clear hh t0; refine load_cells rfl 39 (.tmp 12) rfl T rfl 39 _ rowE 239 Try.underlying39 rfl size39 hE2s ?_; have t1 : Hid (2 = 2) := rfl)
                  | (have hh := t1; clear hh t1; refine build_parts rfl 37 #[(0, .const (.int .u8 6)), (3, .const (.int .u32 7))] rfl [(0, .int .u8 6), (3, .int .u32 7)] rfl _ HB1.out ?_; have t2 : Hid (2 = 2) := rfl)
                  | (have hh := t2; clear hh t2; refine build_parts rfl 39 #[(0, .tmp 65), (1, .tmp 66)] rfl [(0, .int .u64 k), (1, .agg CA)] rfl _ HB3.out ?_; have t3 : Hid (2 = 2) := rfl)
                  | (have hh := t3; clear hh t3; refine wpList_slice_two rfl (.tmp 63) (.tmp 67) rfl E2 EC hE2 hEC rfl rfl ?_; have t4 : Hid (2 = 2) := rfl)
                  | (have hh := t4; clear hh t4; at_builtin; refine wpList_copy rfl (.tmp 62) (.tmp 68) 27 rfl _ _ rfl rfl (T := fun v' w' => OwnE w' B v' ((al ++ [e]) ++ [E2, EC]) ∧ (w10.alloc (.cells (flatE [E2, EC]).toArray 39)).grownBy w' (Value.slice oa7 n7 cap7).ownBlock ∧ (v'.ownBlock = (Value.slice oa7 n7 cap7).ownBlock ∨ v'.ownBlock = some (w10.alloc (.cells (flatE [E2, EC]).toArray 39)).heap.size)) (fun ty => HR.out ty) ?_
                     intro v9 w11 hT
                     obtain ⟨hO9, gr9, hv9⟩ := hT))
                have tw := tw.growA hO9 gr9 hv9
                have bX := bX.grown gr9 hbs (fun b hb => HLT.out b hb)
                go_roundw
                case rel => exact ⟨k + 1, _, _, by omega, by go_num, tw.ow, tw.oa, tw.ap, HMS.out, bX⟩
                case measure => simp [intOf]; omega)
            · as_aux_lemma => (
                rw [show (decide (e.r.undo = u) && decide (e.r.no = no)) = false by
                  cases hq : (decide (e.r.undo = u) && decide (e.r.no = no)) with
                  | false => rfl
                  | true => simp at hq; exact absurd hq hpg] at heq
                go_upto_region 9 with (first
                  | (refine load_any_g rfl 24 (.tmp 35) rfl ⟨T, 2, none⟩ rfl [.bool e.r.undo, .int .u16 e.r.no] _ hm Try.underlying24 rfl size24 ?_)
                  | (refine load_cells_g rfl 24 (.tmp 4) rfl s0 rfl 24 #[.bool u, .int .u16 no] r0 2 Try.underlying24 rfl size24 rfl ?_))
                go_upto_region 11 with (first
                  | (refine load_any_g rfl 24 (.tmp 50) rfl ⟨T, 2, none⟩ rfl [.bool e.r.undo, .int .u16 e.r.no] _ hm Try.underlying24 rfl size24 ?_)
                  | (refine load_cells_g rfl 24 (.tmp 4) rfl s0 rfl 24 #[.bool u, .int .u16 no] r0 2 Try.underlying24 rfl size24 rfl ?_))
                have c2 := row_at tw.row 2 _ ((e.atR 1).trans e.r.at1)
                have c3 := row_at tw.row 3 _ ((e.atR 2).trans e.r.at2)
                have f2 := row_frozen tw.row 2
                have f3 := row_frozen tw.row 3
                have t0 : Hid (2 = 2) := rfl
                go_upto_region 12 with (first
                  | (have hh := t0; clear hh t0; refine load_cells rfl 24 (.tmp 5) rfl g1 rfl 24 #[.bool u2, .int .u16 on] r1 2 Try.underlying24 rfl size24 rfl ?_))
                have tw := tw.turn u2 on
                have bX := (bX.setCell (p := ⟨T, 2, none⟩) (by show B ≤ T; omega) (.bool u2)).setCell (p := ⟨T, 3, none⟩) (by show B ≤ T; omega) (.int .u16 on)
                clear c1 hm c2 c3 f2 f3 r0 r1
                generalize (w5.setCell ⟨T, 2, none⟩ (.bool u2)).setCell ⟨T, 3, none⟩ (.int .u16 on) = w10 at tw bX ⊢
                obtain ⟨E2, HE2⟩ : ∃ E2, Hid (offP u2 on e = E2) := ⟨_, rfl⟩
                rw [HE2.out] at tw
                have hE2 : E2.r.img.length = 224 := by rw [← HE2.out]; exact hlen
                have hE2s : E2.arr.size = 239 := E2.arr_size hE2
                obtain ⟨EC, HEC⟩ : ∃ EC : En, Hid ((⟨k, cR⟩ : En) = EC) := ⟨_, rfl⟩
                have hEC : EC.r.img.length = 224 := by rw [← HEC.out]; exact cR_len
                have HB3 : Hid (Try.prog.built 39 [(0, .int .u64 k), (1, .agg cR.arr)] = some EC.arr) := by show _ = _; rw [← HEC.out]; exact built39 k cR cR_len
                have HB1 : Hid (Try.prog.built 37 [(0, .int .u8 6), (3, .int .u32 7)] = some cR.arr) := built37c
                generalize cR.arr = CA at HB1 HB3
                have e1 : IntKind.u64.wrap (k : Int) = k := by rw [IntKind.wrap_u64]; omega
                have rowE := tw.row
                have bA := (Below.refl w10.heap.size w10).alloc (Nat.le_refl _) (.cells (flatE [E2, EC]).toArray 39)
                have tw := tw.keep bA
                have hsz9 := bX.size
                rw [HB.out] at hsz9
                have bX := bX.trans (bA.mono (by omega))
                have hbs : B ≤ (w10.alloc (.cells (flatE [E2, EC]).toArray 39)).heap.size := by have := bA.size; omega
                have HR : Hid _ := fun ty => tw.oa.more ty w10.heap.size 2 [E2, EC] rfl (by simp [hE2, hEC]) (Row.new _ _ _) hbs (by rw [HNA.out]; omega)
                have HLT : Hid _ := fun b hb => (World.ownsRow.lt tw.oa b hb).1
                have HMS : Hid (Mix u no (k + 1) (wl ++ []) ((al ++ []) ++ [E2, EC])) := by
                  show Mix _ _ _ _ _
                  have := HMX.out.step u2 on HNE.out hon e hfe (by omega) [] [] (Or.inl ⟨rfl, rfl⟩)
                  rw [HE2.out, HEC.out] at this
                  exact this
                rw [List.append_nil, List.append_nil] at HMS
                have t0 : Hid (2 = 2) := rfl
                clear bA hea
                go_wp2_with (first
                  | (have hh := t0; clear hh t0; refine load_cells rfl 39 (.tmp 12) rfl T rfl 39 _ rowE 239 Try.underlying39 rfl size39 hE2s ?_; have t1 : Hid (2 = 2) := rfl)
                  | (have hh := t1; clear hh t1; refine build_parts rfl 37 #[(0, .const (.int .u8 6)), (3, .const (.int .u32 7))] rfl [(0, .int .u8 6), (3, .int .u32 7)] rfl _ HB1.out ?_; have t2 : Hid (2 = 2) := rfl)
                  | (have hh := t2; clear hh t2; refine build_parts rfl 39 #[(0, .tmp 65), (1, .tmp 66)] rfl [(0, .int .u64 k), (1, .agg CA)] rfl _ HB3.out ?_; have t3 : Hid (2 = 2) := rfl)
                  | (have hh := t3; clear hh t3; refine wpList_slice_two rfl (.tmp 63) (.tmp 67) rfl E2 EC hE2 hEC rfl rfl ?_; have t4 : Hid (2 = 2) := rfl)
                  | (have hh := t4; clear hh t4; at_builtin; refine wpList_copy rfl (.tmp 62) (.tmp 68) 27 rfl _ _ rfl rfl (T := fun v' w' => OwnE w' B v' (al ++ [E2, EC]) ∧ (w10.alloc (.cells (flatE [E2, EC]).toArray 39)).grownBy w' (Value.slice oaA nA capA).ownBlock ∧ (v'.ownBlock = (Value.slice oaA nA capA).ownBlock ∨ v'.ownBlock = some (w10.alloc (.cells (flatE [E2, EC]).toArray 39)).heap.size)) (fun ty => HR.out ty) ?_
                     intro v9 w11 hT
                     obtain ⟨hO9, gr9, hv9⟩ := hT))
                have tw := tw.growA hO9 gr9 hv9
                have bX := bX.grown gr9 hbs (fun b hb => HLT.out b hb)
                go_roundw
                case rel => exact ⟨k + 1, _, _, by omega, by go_num, tw.ow, tw.oa, tw.ap, HMS.out, bX⟩
                case measure => simp [intOf]; omega)
        · have hkn' : ¬ (k : Int) < (n : Int) := by omega
          obtain rfl : k = n := by omega
          have HIA : Hid (∀ x ∈ al, x.r.img.length = 224) := fun x hx => (HMX.out.fa x hx).r.len
          have HIW : Hid (∀ x ∈ wl, x.r.img.length = 224) := fun x hx => (HMX.out.fw x hx).r.len
          have HRA : Hid _ := fun (w : World) (h : Log w (.slice oaA nA capA) al) => HRP.out p _ al w hp hb h HMX.out.fa (by rw [HNA.out]; omega)
          have HRW : Hid _ := fun (w : World) (h : Log w (.slice oaW nW capW) wl) => HRP.out p _ wl w hp hb h HMX.out.fw (by rw [HNW.out]; omega)
          rw [replay_mixed HMX.out.eq] at HRA
          have hP1 := replayR_ok u no p wl HMX.out.fw hp hb
          generalize replayR u no p wl = P1 at HRA HRW hP1
          have hP1b : (bs P1).size = 224 := by rw [bs_size, hP1.1]
          have heq := equal26 P1 P1 hP1.1 hP1.1
          simp only [decide_true] at heq
          have HOA : Hid (OwnE wr B (.slice oaA nA capA) al) := oA
          have HOW : Hid (OwnE wr B (.slice oaW nW capW) wl) := oW
          have ab := ab.trans (bX.mono HSB.out)
          clear oA oW hap bX HMX HRP
          go_upto_region 14 with fail
          refine wp_region_held_drew (S := fun w' => Row w' s0 #[.bool u, .int .u16 no] 24 ∧ Row w' g2 (bs p) 26 ∧ Below wr.heap.size wr w') (by kernel_rfl) ⟨r0, r2, (Below.refl _ _).drew⟩ fun hS => ?_
          refine wpAnyH_take (i := 0) (v := .agg #[.bool u, .int .u16 no]) rfl (by kernel_rfl) (by kernel_rfl) (by kernel_rfl) (fun _ _ _ h => h) (yields_cells (by rfl) 24 (.tmp 4) rfl s0 rfl 24 #[.bool u, .int .u16 no] (fun w h => h.1) 2 Try.underlying24 rfl size24 rfl) hS ?_
          try simp only [Act.put, List.getElem_toArray, List.getElem_cons_zero, List.getElem_cons_succ, List.setIfInBounds_toArray, List.set_cons_zero, List.set_cons_succ]
          refine wpAnyH_take (i := 1) (v := .agg (bs p)) rfl (by kernel_rfl) (by kernel_rfl) (by kernel_rfl) (fun _ _ _ h => h) (yields_row (by rfl) 26 (.tmp 6) rfl g2 rfl 26 (bs p) (fun w h => h.2.1) 224 5 Try.underlying26 size26 hpb) hS ?_
          try simp only [Act.put, List.getElem_toArray, List.getElem_cons_zero, List.getElem_cons_succ, List.setIfInBounds_toArray, List.set_cons_zero, List.set_cons_succ]
          refine wpAnyH_take (i := 2) (v := .slice oaA nA capA) rfl (by kernel_rfl) (by kernel_rfl) (by kernel_rfl) (fun _ _ _ h => h) (Or.inl ⟨by rfl, fun w _ => by go_simp⟩) hS ?_
          try simp only [Act.put, List.getElem_toArray, List.getElem_cons_zero, List.getElem_cons_succ, List.setIfInBounds_toArray, List.set_cons_zero, List.set_cons_succ]
          refine wpAnyH_take (i := 4) (v := .agg #[.bool u, .int .u16 no]) rfl (by kernel_rfl) (by kernel_rfl) (by kernel_rfl) (fun _ _ _ h => h) (yields_cells (by rfl) 24 (.tmp 4) rfl s0 rfl 24 #[.bool u, .int .u16 no] (fun w h => h.1) 2 Try.underlying24 rfl size24 rfl) hS ?_
          try simp only [Act.put, List.getElem_toArray, List.getElem_cons_zero, List.getElem_cons_succ, List.setIfInBounds_toArray, List.set_cons_zero, List.set_cons_succ]
          refine wpAnyH_take (i := 5) (v := .agg (bs p)) rfl (by kernel_rfl) (by kernel_rfl) (by kernel_rfl) (fun _ _ _ h => h) (yields_row (by rfl) 26 (.tmp 6) rfl g2 rfl 26 (bs p) (fun w h => h.2.1) 224 5 Try.underlying26 size26 hpb) hS ?_
          try simp only [Act.put, List.getElem_toArray, List.getElem_cons_zero, List.getElem_cons_succ, List.setIfInBounds_toArray, List.set_cons_zero, List.set_cons_succ]
          refine wpAnyH_take (i := 6) (v := .slice oaW nW capW) rfl (by kernel_rfl) (by kernel_rfl) (by kernel_rfl) (fun _ _ _ h => h) (Or.inl ⟨by rfl, fun w _ => by go_simp⟩) hS ?_
          try simp only [Act.put, List.getElem_toArray, List.getElem_cons_zero, List.getElem_cons_succ, List.setIfInBounds_toArray, List.set_cons_zero, List.set_cons_succ]
          refine wpAnyH_ready (rs := [3]) (by kernel_rfl) (by simp) ?_
          refine AllReadyH.cons rfl (fun K hK => ?_) AllReadyH.nil
          go_simp
          go_at_call 8
          refine Calls.mono (HRA.out _ ((HOA.out.keep hS.2.2).log HIA.out)) ?_
          rintro e wc ⟨rfl, hcb⟩
          refine hK.out _ _ (⟨hS.1.below hcb hS.1.lt, hS.2.1.below hcb hS.2.1.lt, hS.2.2.trans (hcb.mono hS.2.2.size)⟩) fun hS => ?_
          try simp only [Act.put, List.getElem_toArray, List.getElem_cons_zero, List.getElem_cons_succ, List.setIfInBounds_toArray, List.set_cons_zero, List.set_cons_succ]
          clear hcb
          refine wpAnyH_ready (rs := [7]) (by kernel_rfl) (by simp) ?_
          refine AllReadyH.cons rfl (fun K hK => ?_) AllReadyH.nil
          go_simp
          go_at_call 8
          refine Calls.mono (HRW.out _ ((HOW.out.keep hS.2.2).log HIW.out)) ?_
          rintro e w2_7 ⟨rfl, hcb⟩
          refine hK.out _ _ (⟨hS.1.below hcb hS.1.lt, hS.2.1.below hcb hS.2.1.lt, hS.2.2.trans (hcb.mono hS.2.2.size)⟩) fun hS => ?_
          try simp only [Act.put, List.getElem_toArray, List.getElem_cons_zero, List.getElem_cons_succ, List.setIfInBounds_toArray, List.set_cons_zero, List.set_cons_succ]
          clear hcb
          refine wpAnyH_take (i := 8) (v := .bool true) rfl (by kernel_rfl) (by kernel_rfl) (by kernel_rfl) (fun _ _ _ h => h) (yields_eq (by rfl) 26 26 (.tmp 74) (.tmp 78) rfl (bs P1) (bs P1) rfl rfl Try.eqGuardType26 true heq) hS ?_
          try simp only [Act.put, List.getElem_toArray, List.getElem_cons_zero, List.getElem_cons_succ, List.setIfInBounds_toArray, List.set_cons_zero, List.set_cons_succ]
          refine wpAnyH_take (i := 9) (v := .bool true) rfl (by kernel_rfl) (by kernel_rfl) (by kernel_rfl) (fun _ _ _ h => h) (Or.inl ⟨by rfl, fun w _ => by go_simp⟩) hS ?_
          try simp only [Act.put, List.getElem_toArray, List.getElem_cons_zero, List.getElem_cons_succ, List.setIfInBounds_toArray, List.set_cons_zero, List.set_cons_succ]
          refine wpAnyH_ready (rs := [10]) (by kernel_rfl) (by simp) ?_
          refine AllReadyH.cons rfl (fun K hK => ?_) AllReadyH.nil
          go_simp
          go_at_call 7
          refine Calls.mono (HAW.out _) ?_
          rintro e w3_10 ⟨rfl, hcb⟩
          refine hK.out _ _ (⟨hS.1.below hcb hS.1.lt, hS.2.1.below hcb hS.2.1.lt, hS.2.2.trans (hcb.mono hS.2.2.size)⟩) fun hS => ?_
          try simp only [Act.put, List.getElem_toArray, List.getElem_cons_zero, List.getElem_cons_succ, List.setIfInBounds_toArray, List.set_cons_zero, List.set_cons_succ]
          clear hcb
          refine wpAnyH_take (i := 11) (v := .bool true) rfl (by kernel_rfl) (by kernel_rfl) (by kernel_rfl) (fun _ _ _ h => h) (Or.inl ⟨by rfl, fun w _ => by go_simp⟩) hS ?_
          try simp only [Act.put, List.getElem_toArray, List.getElem_cons_zero, List.getElem_cons_succ, List.setIfInBounds_toArray, List.set_cons_zero, List.set_cons_succ]
          refine wpAnyH_take (i := 12) (v := .bool true) rfl (by kernel_rfl) (by kernel_rfl) (by kernel_rfl) (fun _ _ _ h => h) (Or.inl ⟨by rfl, fun w _ => by go_simp⟩) hS ?_
          try simp only [Act.put, List.getElem_toArray, List.getElem_cons_zero, List.getElem_cons_succ, List.setIfInBounds_toArray, List.set_cons_zero, List.set_cons_succ]
          refine wpAnyH_done (by kernel_rfl) ?_ _
          go_wp2
          go_ret
          exact ⟨rfl, ab.trans (hS.2.2.mono ab.size)⟩

set_option maxRecDepth 100000 in
theorem lifted (os : Os) (started : os.Started) (H : Type) (enc : TypeId × Value → H) :
    ReturnsInHanded {} Try.checked os 6 .any (Rows.applyApartSpec.pre6 enc Try.prog Try.f6 Rows.applyApartRow.domain false) (Rows.applyApartSpec.post enc Try.prog Try.f6 false true false false) := by
  refine returnsInHanded_of_change_sized (C := Try.checked) own started (by kernel_rfl) Try.func6
    (ChangeSpec.witness6 (enc := enc) (C := Try.checked) false ⟨#[], #[.agg #[.bool false, .int .u16 0], .agg #[.bool false, .int .u16 0], .agg (bs (zs 224)), .slice none 0 0], []⟩ 8 (by kernel_rfl) (by kernel_rfl) (by kernel_rfl) (by kernel_rfl)) ?_
  intro W base args ds gs before hval0 hW hcnd hsz0 _
  have hval : ∀ (j : Nat) t v, Try.f6.params[j]? = some t → args[j]? = some v → Value.okWide Try.prog W .any base t v := hval0
  have hW' := hW
  obtain ⟨p, q, hA0, hV, rfl, hfz, hnd⟩ := hW
  have hA : DataW.TrodAll enc Try.prog W 0 (fun _ => true) true Try.f6.params.toList args.toList ds p := hA0
  have hsz : (DataW.weightsEach Try.prog (Try.f6.params.toList ++ []) (ds ++ gs)).all (· ≤ reachBytes) = true := hsz0
  rw [Try.params6] at hA hval hsz
  obtain ⟨v0, vs0, d0, ds0, p0, q0, hargs, rfl, rfl, h0, r0⟩ := trodAll_cons hA
  obtain ⟨v1, vs1, d1, ds1, p1, q1, rfl, rfl, rfl, h1, r1⟩ := trodAll_cons r0
  obtain ⟨v2, vs2, d2, ds2, p2, q2, rfl, rfl, rfl, h2, r2⟩ := trodAll_cons r1
  obtain ⟨v3, vs3, d3, ds3, p3, q3, rfl, rfl, rfl, h3, r3⟩ := trodAll_cons r2
  obtain ⟨rfl, rfl, rfl⟩ := trodAll_nil r3
  obtain rfl : args = #[v0, v1, v2, v3] := by cases args; simp_all
  obtain ⟨rfl, rfl⟩ := trodVars_none hV
  simp only [List.append_nil] at hsz
  have hlt : ∀ x ∈ (p0 ++ (p1 ++ (p2 ++ (p3 ++ [])))), x.block < W.heap.size := fun x hx => hW'.lt x (by simpa using hx)
  have hw0 : (d0.weights Try.prog 24).all (· ≤ reachBytes) = true := List.all_eq_true.2 fun m hm => List.all_eq_true.1 hsz m (by simp [DataW.weightsEach, hm])
  have hw1 : (d1.weights Try.prog 24).all (· ≤ reachBytes) = true := List.all_eq_true.2 fun m hm => List.all_eq_true.1 hsz m (by simp [DataW.weightsEach, hm])
  have hw2 : (d2.weights Try.prog 26).all (· ≤ reachBytes) = true := List.all_eq_true.2 fun m hm => List.all_eq_true.1 hsz m (by simp [DataW.weightsEach, hm])
  have hw3 : (d3.weights Try.prog 27).all (· ≤ reachBytes) = true := List.all_eq_true.2 fun m hm => List.all_eq_true.1 hsz m (by simp [DataW.weightsEach, hm])
  have k0 := h0
  have k1 := h1
  have k2 := h2
  have k3 := h3
  obtain ⟨a0, c0, rfl, w0⟩ := open_pidv (hval 0 24 v0 rfl rfl) h0
  obtain ⟨a1, c1, rfl, w1⟩ := open_pidv (hval 1 24 v1 rfl rfl) h1
  obtain ⟨a2, rfl, l2, w2⟩ := open_payv (hval 2 26 v2 rfl rfl) h2
  obtain ⟨a3, w3⟩ := open_log (hval 3 27 v3 rfl rfl) h3 hw3
  clear hA0 hval0
  simp only [List.append_nil] at hW'
  refine (walk W a0 c0 a1 c1 a2 v3 a3 w0 w1 l2 w2 w3).mono fun e W' ⟨he, hg⟩ => ?_
  subst he
  exact ⟨_, rfl, ⟨_, _, _, [], (p0 ++ (p1 ++ (p2 ++ (p3 ++ [])))), [], hW', (trodAll_cons_mk (shut_bool Try.underlying4 _) trodAll_mk0), (trodAll_cons_mk (Below.trod laidOut (by kernel_rfl) (of_decide_eq_true (by kernel_rfl)) k0 hg (fun x hx => hlt x (by simp [hx]))) (trodAll_cons_mk (Below.trod laidOut (by kernel_rfl) (of_decide_eq_true (by kernel_rfl)) k1 hg (fun x hx => hlt x (by simp [hx]))) (trodAll_cons_mk (Below.trod laidOut (by kernel_rfl) (of_decide_eq_true (by kernel_rfl)) k2 hg (fun x hx => hlt x (by simp [hx]))) (trodAll_cons_mk (Below.trod laidOut (by kernel_rfl) (of_decide_eq_true (by kernel_rfl)) k3 hg (fun x hx => hlt x (by simp [hx]))) trodAll_mk0)))), rfl,
    hg.frame _, fun h => by cases h⟩⟩

theorem over : Rows.applyApartRow.holds Try.pinned (OpenSpec.ofChange Rows.applyApartSpec) :=
  OpenClaim.holds_of_wide 6 Try.f6 rfl rfl rfl rfl rfl rfl rfl ⟨rfl, rfl, rfl, rfl, rfl⟩ rfl rfl rfl rfl rfl (by kernel_rfl) Try.func6 (by kernel_rfl)
    (of_decide_eq_true (by kernel_rfl)) (by unfold Func.isWrapper; first | (rw [if_pos (by decide +kernel)]; kernel_rfl) | (rw [if_neg (by decide +kernel)]; exact ⟨rfl, rfl⟩))
    (fun os started H enc _ => lifted os started H enc)

/-- The statement. -/
theorem proved : Rows.ApplyApartSaid :=
  over
#print axioms proved
end Go.Proofs.Ytihjapfgllokgab.applyApart
