/-
  Proved here: behind an image, what stood at a page before makes no difference, and the page is right.
-/
import Derived.Test.YtihjapfgllokgabOpp
import Derived.Test.YtihjapfgllokgabFcu
namespace Go.Proofs.Ytihjapfgllokgab.applyTorn
open Go.ChangeShapes Go.WideShapes Go.ChangeAt Go.RowKit
open Go.Deep
set_option linter.unusedVariables false
set_option linter.unusedSimpArgs false

theorem own : ownKnob Try.prog.godebug = none := by kernel_rfl

/-- An entry, numbered one higher. -/
def bump (e : En) : En := ⟨e.lsn + 1, e.r⟩
theorem Log.at {w : World} {oa : Option Addr} {n cap : Nat} {es : List En} (h : Log w (.slice oa n cap) es) (k : Nat) (hk : k < es.length) : ∃ a e, oa = some a ∧ es[k]? = some e ∧ ∀ j x, e.cells[j]? = some x → w.cell? ((a.add (k * 239)).add j) = some x := by
  obtain ⟨oa', cap', h1, h2⟩ := h.hold
  cases h1
  exact h2 k hk
/-- A log that a call keeps, hidden. -/
structure Kep (w : World) (v : Value) (es : List En) (base : Nat) : Prop where
  own : OwnE w base v es
theorem Kep.keep {w w' : World} {v : Value} {es : List En} {base : Nat} (h : Kep w v es base) (hb : Below w.heap.size w w') : Kep w' v es base := ⟨h.own.keep hb⟩

set_option maxHeartbeats 8000000 in
set_option maxRecDepth 20000 in
theorem walk (w : World) (p q img : List Int) (u : Bool) (no : Int) (v : Value) (es : List En) (hp : p.length = 224) (hbp : Bytes p) (hq : q.length = 224) (hbq : Bytes q) (hi : img.length = 224) (hbi : Bytes img) (hno : 0 ≤ no ∧ no ≤ 65535) (hl : Log w v es ∧ (∀ e ∈ es, e.Fits) ∧ es.length * 304 ≤ 140737488355328) :
    Calls Try.prog 5 #[.agg (bs p), .agg (bs q), .agg (bs img), .agg #[.bool u, .int .u16 no], v] w fun e w' => e = .returned (.bool true) ∧ Below w.heap.size w w' := by
  have hz := zero26
  have hze := zero39
  obtain ⟨hlg, hft, hsz⟩ := hl
  have HRP : Hid _ := fun q v es w => replay_any u no q v es w hno
  have HAW : Hid _ := fun w => awake_any w
  have HFE : Hid _ := fun (w : World) (hl : Log w v es) => few_any v es w hl hft (by omega)
  have HTI : Hid _ := fun w => right_any u no img w hno hi hbi
  have HTP : Hid _ := fun w => right_any u no p w hno hp hbp
  have HTQ : Hid _ := fun w => right_any u no q w hno hq hbq
  have HLP : Hid (∀ w, Calls Try.prog 12 #[.agg (bs p)] w fun e w' => e = .returned (.int .u64 (lsnOf p)) ∧ Below w.heap.size w w') := fun w => lsn_any p w hp
  have HLQ : Hid (∀ w, Calls Try.prog 12 #[.agg (bs q)] w fun e w' => e = .returned (.int .u64 (lsnOf q)) ∧ Below w.heap.size w w') := fun w => lsn_any q w hq
  have hpb : (bs p).size = 224 := by rw [bs_size, hp]
  have hqb : (bs q).size = 224 := by rw [bs_size, hq]
  have hib : (bs img).size = 224 := by rw [bs_size, hi]
  obtain ⟨s0, HS⟩ : ∃ s, Hid (w.heap.size = s) := ⟨_, rfl⟩
  have r0 : Row ((((w.alloc (.cells (bs p) 26)).alloc (.cells (bs q) 26)).alloc (.cells (bs img) 26)).alloc (.cells #[.bool u, .int .u16 no] 24)) s0 (bs p) 26 := by rw [← HS.out]; exact (((Row.new _ _ _).alloc _).alloc _).alloc _
  have r1 : Row ((((w.alloc (.cells (bs p) 26)).alloc (.cells (bs q) 26)).alloc (.cells (bs img) 26)).alloc (.cells #[.bool u, .int .u16 no] 24)) (s0 + 1) (bs q) 26 := by rw [← HS.out]; have := ((Row.new (w.alloc (.cells (bs p) 26)) (bs q) 26).alloc (.cells (bs img) 26)).alloc (.cells #[.bool u, .int .u16 no] 24); simpa using this
  have r2 : Row ((((w.alloc (.cells (bs p) 26)).alloc (.cells (bs q) 26)).alloc (.cells (bs img) 26)).alloc (.cells #[.bool u, .int .u16 no] 24)) (s0 + 1 + 1) (bs img) 26 := by rw [← HS.out]; have := (Row.new ((w.alloc (.cells (bs p) 26)).alloc (.cells (bs q) 26)) (bs img) 26).alloc (.cells #[.bool u, .int .u16 no] 24); simpa using this
  have r3 : Row ((((w.alloc (.cells (bs p) 26)).alloc (.cells (bs q) 26)).alloc (.cells (bs img) 26)).alloc (.cells #[.bool u, .int .u16 no] 24)) (s0 + 1 + 1 + 1) #[.bool u, .int .u16 no] 24 := by rw [← HS.out]; have := Row.new (((w.alloc (.cells (bs p) 26)).alloc (.cells (bs q) 26)).alloc (.cells (bs img) 26)) #[.bool u, .int .u16 no] 24; simpa using this
  have ab : Below w.heap.size w ((((w.alloc (.cells (bs p) 26)).alloc (.cells (bs q) 26)).alloc (.cells (bs img) 26)).alloc (.cells #[.bool u, .int .u16 no] 24)) := ((((Below.refl _ _).alloc (Nat.le_refl _) _).alloc (by simp) _).alloc (by simp; omega) _).alloc (by simp; omega) _
  have HLG : Hid (Log ((((w.alloc (.cells (bs p) 26)).alloc (.cells (bs q) 26)).alloc (.cells (bs img) 26)).alloc (.cells #[.bool u, .int .u16 no] 24)) v es) := hlg.keep ab
  clear hlg
  obtain ⟨E, HE⟩ : ∃ E : En, Hid ((⟨1, imgR u no img⟩ : En) = E) := ⟨_, rfl⟩
  have hEf : E.Fits := by
    rw [← HE.out]
    exact ⟨by show (0 : Int) ≤ 1 ∧ (1 : Int) ≤ 18446744073709551615; omega, ⟨by show (0 : Int) ≤ 1 ∧ (1 : Int) ≤ 255; omega, hno, hi, hbi, R.zero_fits.ts, R.zero_fits.pp, R.zero_fits.ps, R.zero_fits.slot, R.zero_fits.delta, R.zero_fits.old, R.zero_fits.odelta⟩⟩
  have hEl : E.r.img.length = 224 := hEf.r.len
  have HB3 : Hid (Try.prog.built 39 [(0, .int .u64 1), (1, .agg (imgR u no img).arr)] = some E.arr) := by show _ = _; rw [← HE.out]; exact built39 1 (imgR u no img) hi
  have HB1 : Hid (Try.prog.built 37 [(0, .int .u8 1), (1, .agg #[.bool u, .int .u16 no]), (2, .agg (bs img))] = some (imgR u no img).arr) := built37i u no img hi
  generalize (imgR u no img).arr = RA at HB1 HB3
  have hEs : E.arr.size = 239 := E.arr_size hEl
  go_enter Try.func5, Try.ntmps5
  go_upto_region 1 with fail
  rw [HS.out]
  obtain ⟨g3, HG3⟩ : ∃ g, Hid (s0 + 1 + 1 + 1 = g) := ⟨_, rfl⟩
  rw [HG3.out] at r3 ⊢
  obtain ⟨g2, HG2⟩ : ∃ g, Hid (s0 + 1 + 1 = g) := ⟨_, rfl⟩
  rw [HG2.out] at r2 HG3 ⊢
  obtain ⟨g1, HG1⟩ : ∃ g, Hid (s0 + 1 = g) := ⟨_, rfl⟩
  rw [HG1.out] at r1 HG2 ⊢
  have d1 : s0 < g1 := by rw [← HG1.out]; omega
  have d2 : g1 < g2 := by rw [← HG2.out]; omega
  have d3 : g2 < g3 := by rw [← HG3.out]; omega
  generalize (((w.alloc (.cells (bs p) 26)).alloc (.cells (bs q) 26)).alloc (.cells (bs img) 26)).alloc (.cells #[.bool u, .int .u16 no] 24) = w1 at r0 r1 r2 r3 ab HLG ⊢
  have t1 : Hid (1 = 1) := rfl
  go_upto_region 2 with (first
    | (have hh := t1; clear hh t1; refine load_cells rfl 24 (.tmp 8) rfl g3 rfl 24 #[.bool u, .int .u16 no] r3 2 Try.underlying24 rfl size24 rfl ?_; have t2 : Hid (2 = 2) := rfl)
    | (have hh := t2; clear hh t2; refine load_row rfl 26 (.tmp 7) rfl g2 rfl 26 (bs img) r2 224 5 Try.underlying26 size26 hib ?_; have t3 : Hid (2 = 2) := rfl)
    | (have hh := t3; clear hh t3; refine build_parts rfl 37 #[(0, .const (.int .u8 1)), (1, .tmp 15), (2, .tmp 16)] rfl [(0, .int .u8 1), (1, .agg #[.bool u, .int .u16 no]), (2, .agg (bs img))] rfl _ HB1.out ?_; have t4 : Hid (2 = 2) := rfl)
    | (have hh := t4; clear hh t4; refine build_parts rfl 39 #[(0, .const (.int .u64 1)), (1, .tmp 17)] rfl [(0, .int .u64 1), (1, .agg RA)] rfl _ HB3.out ?_; have t5 : Hid (2 = 2) := rfl)
    | (have hh := t5; clear hh t5; refine wpList_slice_one rfl (.tmp 18) rfl E hEl rfl ?_))
  have hX3 : g3 < w1.heap.size := r3.lt
  have o1 : OwnE (w1.alloc (.cells E.arr 39)) w1.heap.size (.slice (some ⟨w1.heap.size, 0, none⟩) 1 1) [E] := OwnE.one _ _ _ E hEl (Row.new _ _ _) (Nat.le_refl _)
  have HLG : Hid (Log (w1.alloc (.cells E.arr 39)) v es) := HLG.out.keep ((Below.refl _ _).alloc (Nat.le_refl _) _)
  have r0 := r0.alloc (.cells E.arr 39)
  have r1 := r1.alloc (.cells E.arr 39)
  have r2 := r2.alloc (.cells E.arr 39)
  have r3 := r3.alloc (.cells E.arr 39)
  have ab := ab.alloc ab.size (.cells E.arr 39)
  have hX : w1.heap.size < (w1.alloc (.cells E.arr 39)).heap.size := by simp
  generalize w1.alloc (.cells E.arr 39) = w2 at o1 HLG r0 r1 r2 r3 ab hX ⊢
  generalize w1.heap.size = X at o1 hX hX3 ⊢
  clear HB3 HB1
  generalize E.arr = EA
  go_upto_region 3 with (first
    | (go_at_call 10; refine (HFE.out _ HLG.out).mono ?_; clear HFE; rintro e w3 ⟨v', rfl, hO, h2⟩
       obtain ⟨l, HLL⟩ : ∃ l, Hid (fewN es (min 40 es.length) = l) := ⟨_, rfl⟩
       rw [HLL.out] at hO
       have hfl : ∀ e ∈ l, e.Fits := by rw [← HLL.out]; exact fewN_fits es hft _ (by omega)
       have hls : ∀ e ∈ l, e.lsn ≤ 40 := by rw [← HLL.out]; exact fun e he => by have := fewN_lsn es _ e he; omega
       have hll : l.length ≤ 40 := by rw [← HLL.out, fewN_length es _ (by omega)]; omega
       obtain ⟨oa, cap, rfl, hlc, hcm⟩ := hO.room
       obtain ⟨m, HM⟩ : ∃ m, Hid (l.length = m) := ⟨_, rfl⟩
       rw [HM.out] at hll hlc hO ⊢))
  have o1 := o1.keep h2
  have r0 := r0.below h2 r0.lt
  have r1 := r1.below h2 r1.lt
  have r2 := r2.below h2 r2.lt
  have r3 := r3.below h2 r3.lt
  have ab := ab.trans (h2.mono ab.size)
  have h23 := h2.size
  clear h2 HLG hft hsz hlc hcm
  have oX : ∀ b, (Value.slice (some ⟨X, 0, none⟩) 1 1).ownBlock = some b → (Value.slice oa m cap).ownBlock ≠ some b := fun b hb h => by
    have h1 := (World.ownsRow.lt hO b h).1
    simp [Value.ownBlock] at hb
    omega
  have hO : OwnE w3 X (.slice oa m cap) l := ⟨hO.1, hO.2.imp id fun ⟨g, c, cu, e1, e2, e3⟩ => ⟨g, c, cu, e1, by omega, e3⟩⟩
  have HRE : Hid _ := fun (w : World) (lg : Value) (q : List Int) (h : Log w lg (E :: l.map bump)) (hq : q.length = 224) (hb : Bytes q) => HRP.out q lg (E :: l.map bump) w hq hb h (fun e he => by
    rcases List.mem_cons.1 he with rfl | he
    · exact hEf
    · obtain ⟨x, hx, rfl⟩ := List.mem_map.1 he
      have h1 := hfl x hx
      have h2 := hls x hx
      have h3 := h1.lsn
      exact ⟨by show 0 ≤ x.lsn + 1 ∧ x.lsn + 1 ≤ 18446744073709551615; omega, h1.r⟩) (by rw [List.length_cons, List.length_map, HM.out]; omega)
  have HFL : Hid (∀ e ∈ E :: l.map bump, e.Fits) := fun e he => by
    rcases List.mem_cons.1 he with rfl | he
    · exact hEf
    · obtain ⟨x, hx, rfl⟩ := List.mem_map.1 he
      have h1 := hfl x hx
      have h2 := hls x hx
      have h3 := h1.lsn
      exact ⟨by show 0 ≤ x.lsn + 1 ∧ x.lsn + 1 ≤ 18446744073709551615; omega, h1.r⟩
  have HHL : Hid (∀ e ∈ l, e.Fits ∧ e.lsn ≤ 40) := fun e he => ⟨hfl e he, hls e he⟩
  clear hfl hls HRP
  go_loopw [11, 23] (fun lg i wr => ∃ k : Nat, k ≤ m ∧ i = .int .i64 k ∧ OwnE wr X lg (E :: (l.take k).map bump) ∧ OwnE wr X (.slice oa m cap) l ∧ (∀ b, lg.ownBlock = some b → (Value.slice oa m cap).ownBlock ≠ some b) ∧ Below X w3 wr) (fun _ i _ => m - (intOf i).toNat)
  case atStart => exact ⟨0, by omega, rfl, o1, hO, oX, Below.refl _ _⟩
  case round =>
    clear o1 hO oX
    obtain ⟨k, hk, rfl, o1, hO, oX, bX⟩ := hrel
    obtain ⟨oaL, capL, rfl⟩ := o1.form
    by_cases hkm : k < m
    · have hkm' : (k : Int) < (m : Int) := by omega
      obtain ⟨a, e, rfl, he, hcell⟩ := Log.at (hO.log (fun x hx => (HHL.out x hx).1.r.len)) k (by rw [HM.out]; exact hkm)
      have hfe := (HHL.out e (List.mem_of_getElem? he)).1
      have hle := (HHL.out e (List.mem_of_getElem? he)).2
      have h0e := hfe.lsn
      have e1 : IntKind.u64.wrap (e.lsn + 1) = e.lsn + 1 := by rw [IntKind.wrap_u64]; omega
      have HNX : Hid ((E :: (l.take k).map bump) ++ [bump e] = E :: (l.take (k + 1)).map bump) := by
        show _ = _
        rw [List.take_add_one, he]; simp
      clear he
      obtain ⟨lk, HLK⟩ : ∃ lk, Hid ((E :: (l.take k).map bump) = lk) := ⟨_, rfl⟩
      have hlk : lk.length ≤ 41 := by rw [← HLK.out]; simp; omega
      rw [HLK.out] at o1 HNX oX ⊢
      obtain ⟨nL, HNL⟩ : ∃ nL, Hid (lk.length = nL) := ⟨_, rfl⟩
      rw [HNL.out] at o1 oX hlk ⊢
      obtain ⟨E2, HE2⟩ : ∃ E2 : En, Hid (bump e = E2) := ⟨_, rfl⟩
      have hEa : (⟨e.lsn + 1, e.r⟩ : En).arr = E2.arr := by rw [← HE2.out]; rfl
      rw [HE2.out] at HNX
      have hE2 : E2.r.img.length = 224 := by rw [← HE2.out]; exact hfe.r.len
      have tl : Hid (1 = 1) := rfl
      have q1 : Row (wr.alloc (.cells En.zero.arr 39)) wr.heap.size En.zero.arr 39 := Row.new _ _ _
      go_upto_region 5 with (first
        | (have hh := tl; clear hh tl; refine wpList_load_any rfl 39 (.tmp 25) rfl (a.add (k * 239)) rfl e.cells _ hcell Try.underlying39 rfl (by rw [size39, En.cells_length _ hfe.r.len]) ?_)
        | (refine store_cells rfl 39 (.tmp 13) (.tmp 26) rfl wr.heap.size e.arr rfl rfl 39 _ q1 239 size39 (En.arr_size _ (zs_length _)) (e.arr_size hfe.r.len) e.arr_one ?_))
      have de := q1.set e.arr
      have hbW : Below wr.heap.size wr ((wr.alloc (.cells En.zero.arr 39)).setRow wr.heap.size e.arr) := below_setRow ((Below.refl _ _).alloc (Nat.le_refl _) _) (Nat.le_refl _) _
      have hwr := bX.size
      clear q1 hcell
      generalize (wr.alloc (.cells En.zero.arr 39)).setRow wr.heap.size e.arr = w5 at de hbW ⊢
      have k0 := row_at de 0 _ e.at0
      have fz := row_frozen de 0
      go_upto_region 6 with fail
      have ze : Row (w5.setCell ⟨wr.heap.size, 0, none⟩ (.int .u64 (e.lsn + 1))) wr.heap.size _ 39 := row_set de 0 (.int .u64 (e.lsn + 1))
      rw [En.set0, hEa] at ze
      have hb6 : Below wr.heap.size wr (w5.setCell ⟨wr.heap.size, 0, none⟩ (.int .u64 (e.lsn + 1))) := hbW.setCell (p := ⟨wr.heap.size, 0, none⟩) (by show wr.heap.size ≤ wr.heap.size; omega) (.int .u64 (e.lsn + 1))
      clear de hbW k0 fz
      generalize w5.setCell ⟨wr.heap.size, 0, none⟩ (.int .u64 (e.lsn + 1)) = w6 at ze hb6 ⊢
      have hb7 := hb6.alloc hb6.size (.cells E2.arr 39)
      have hs7 := hb7.size
      have o1 := o1.keep hb7
      have hO := hO.keep hb7
      have bX := bX.trans (hb7.mono (by omega))
      have HBK : Hid (∀ b, (Value.slice oaL nL capL).ownBlock = some b → X ≤ b) := fun b hb => (World.ownsRow.lt o1 b hb).1
      have HBO : Hid (∀ b, (Value.slice (some a) m cap).ownBlock = some b → b < (w6.alloc (.cells E2.arr 39)).heap.size) := fun b hb => (World.ownsRow.lt hO b hb).2
      have HR : Hid _ := fun ty => o1.more ty w6.heap.size 1 [E2] rfl (by simpa using hE2) (by rw [flatE_arr]; exact Row.new _ _ _) (by omega) (by rw [HNL.out]; omega)
      clear hb6 hb7
      go_wp2_with (first
        | (refine load_cells rfl 39 (.tmp 13) rfl wr.heap.size rfl 39 _ ze 239 Try.underlying39 rfl size39 (E2.arr_size hE2) ?_)
        | (refine wpList_slice_one rfl (.tmp 32) rfl E2 hE2 rfl ?_)
        | (at_builtin; refine wpList_copy rfl (.tmp 31) (.tmp 33) 27 rfl _ _ rfl rfl (T := fun v' w' => OwnE w' X v' (lk ++ [E2]) ∧ (w6.alloc (.cells E2.arr 39)).grownBy w' (Value.slice oaL nL capL).ownBlock ∧ (v'.ownBlock = (Value.slice oaL nL capL).ownBlock ∨ v'.ownBlock = some (w6.alloc (.cells E2.arr 39)).heap.size)) (fun ty => HR.out ty) ?_
           intro v2 w7 hT
           obtain ⟨hO7, gr, hv7⟩ := hT))
      go_roundw
      case rel =>
        refine ⟨k + 1, by omega, by go_num, by rw [← HNX.out]; exact hO7, hO.grown gr (fun b hb h => oX b h hb), fun b hb h => ?_, bX.grown gr (by omega) (fun b hb => HBK.out b hb)⟩
        rcases hv7 with h7 | h7
        · exact oX b (h7 ▸ hb) h
        · rw [h7] at hb
          have := HBO.out b h
          cases hb
          omega
      case measure => simp [intOf]; omega
    · have hkm' : ¬ (k : Int) < (m : Int) := by omega
      obtain rfl : k = m := by omega
      obtain ⟨nL, HNL⟩ : ∃ nL, Hid ((E :: (l.take k).map bump).length = nL) := ⟨_, rfl⟩
      rw [HNL.out] at o1 ⊢
      have HOL : Kep wr (.slice oaL nL capL) (E :: l.map bump) X := ⟨by rw [← List.take_of_length_le (l := l) (i := k) (by rw [HM.out]; omega)]; exact o1⟩
      have r0 := r0.below bX (by omega)
      have r1 := r1.below bX (by omega)
      have r2 := r2.below bX (by omega)
      have r3 := r3.below bX (by omega)
      have ab := ab.trans (bX.mono (by rw [HS.out]; omega))
      clear bX o1 hO oX
      generalize (Value.slice oaL nL capL) = lg at HOL ⊢
      clear h23 hX
      by_cases c1 : isP u no img = true
      · rw [c1] at HTI
        by_cases c2 : isP u no p = true
        · rw [c2] at HTP
          by_cases d2 : 0 < lsnOf p
          · have d2' := d2
            generalize lsnOf p = lp at HLP d2'
            as_aux_lemma => (
              have tk0 : Hid (2 = 2) := rfl
              go_wp2_with (first
                  | (have hh := tk0; clear hh tk0; refine load_cells rfl 24 (.tmp 8) rfl g3 rfl 24 #[.bool u, .int .u16 no] r3 2 Try.underlying24 rfl size24 rfl ?_; have tk1 : Hid (2 = 2) := rfl)
                  | (have hh := tk1; clear hh tk1; refine load_row rfl 26 (.tmp 7) rfl g2 rfl 26 (bs img) r2 224 5 Try.underlying26 size26 hib ?_; have tk2 : Hid (2 = 2) := rfl)
                  | (have hh := tk2; clear hh tk2; go_at_call 11; refine (HTI.out _).mono ?_; clear HTI; rintro e w4 ⟨rfl, hx⟩; have r0 := r0.below hx r0.lt; have r1 := r1.below hx r1.lt; have r2 := r2.below hx r2.lt; have r3 := r3.below hx r3.lt; have HOL := HOL.keep hx; have ab := ab.trans (hx.mono ab.size); clear hx; have tk3 : Hid (2 = 2) := rfl)
                  | (have hh := tk3; clear hh tk3; refine load_cells_g rfl 24 (.tmp 8) rfl g3 rfl 24 #[.bool u, .int .u16 no] r3 2 Try.underlying24 rfl size24 rfl ?_; have tk4 : Hid (2 = 2) := rfl)
                  | (have hh := tk4; clear hh tk4; refine load_row_g rfl 26 (.tmp 5) rfl s0 rfl 26 (bs p) r0 224 5 Try.underlying26 size26 hpb ?_; have tk5 : Hid (2 = 2) := rfl)
                  | (have hh := tk5; clear hh tk5; go_at_call 11; refine (HTP.out _).mono ?_; clear HTP; rintro e w5 ⟨rfl, hx⟩; have r0 := r0.below hx r0.lt; have r1 := r1.below hx r1.lt; have r2 := r2.below hx r2.lt; have r3 := r3.below hx r3.lt; have HOL := HOL.keep hx; have ab := ab.trans (hx.mono ab.size); clear hx; have tk6 : Hid (2 = 2) := rfl)
                  | (have hh := tk6; clear hh tk6; refine load_row_g rfl 26 (.tmp 5) rfl s0 rfl 26 (bs p) r0 224 5 Try.underlying26 size26 hpb ?_; have tk7 : Hid (2 = 2) := rfl)
                  | (have hh := tk7; clear hh tk7; go_at_call 12; refine (HLP.out _).mono ?_; clear HLP; rintro e w6 ⟨rfl, hx⟩; have r0 := r0.below hx r0.lt; have r1 := r1.below hx r1.lt; have r2 := r2.below hx r2.lt; have r3 := r3.below hx r3.lt; have HOL := HOL.keep hx; have ab := ab.trans (hx.mono ab.size); clear hx; have tk8 : Hid (2 = 2) := rfl)
                  | (have hh := tk8; clear hh tk8; go_at_call 7; refine (HAW.out _).mono ?_; rintro e w9 ⟨rfl, hx⟩; have ab := ab.trans (hx.mono ab.size); have tk9 : Hid (2 = 2) := rfl))
              go_ret
              exact ⟨rfl, ab⟩)
          · have hpo : isP u no p = true → lsnOf p ≤ 0 := fun _ => by omega
            obtain ⟨lp, HLPP⟩ : ∃ lp, Hid (lsnOf p = lp) := ⟨_, rfl⟩
            have d2' : decide (0 < lp) = false := by rw [← HLPP.out]; exact decide_eq_false d2
            rw [HLPP.out] at HLP
            clear d2
            by_cases c3 : isP u no q = true
            · rw [c3] at HTQ
              by_cases d3 : 0 < lsnOf q
              · have d3' := d3
                generalize lsnOf q = lq at HLQ d3'
                as_aux_lemma => (
                  have tk0 : Hid (2 = 2) := rfl
                  go_wp2_with (first
                      | (have hh := tk0; clear hh tk0; refine load_cells rfl 24 (.tmp 8) rfl g3 rfl 24 #[.bool u, .int .u16 no] r3 2 Try.underlying24 rfl size24 rfl ?_; have tk1 : Hid (2 = 2) := rfl)
                      | (have hh := tk1; clear hh tk1; refine load_row rfl 26 (.tmp 7) rfl g2 rfl 26 (bs img) r2 224 5 Try.underlying26 size26 hib ?_; have tk2 : Hid (2 = 2) := rfl)
                      | (have hh := tk2; clear hh tk2; go_at_call 11; refine (HTI.out _).mono ?_; clear HTI; rintro e w4 ⟨rfl, hx⟩; have r0 := r0.below hx r0.lt; have r1 := r1.below hx r1.lt; have r2 := r2.below hx r2.lt; have r3 := r3.below hx r3.lt; have HOL := HOL.keep hx; have ab := ab.trans (hx.mono ab.size); clear hx; have tk3 : Hid (2 = 2) := rfl)
                      | (have hh := tk3; clear hh tk3; refine load_cells_g rfl 24 (.tmp 8) rfl g3 rfl 24 #[.bool u, .int .u16 no] r3 2 Try.underlying24 rfl size24 rfl ?_; have tk4 : Hid (2 = 2) := rfl)
                      | (have hh := tk4; clear hh tk4; refine load_row_g rfl 26 (.tmp 5) rfl s0 rfl 26 (bs p) r0 224 5 Try.underlying26 size26 hpb ?_; have tk5 : Hid (2 = 2) := rfl)
                      | (have hh := tk5; clear hh tk5; go_at_call 11; refine (HTP.out _).mono ?_; clear HTP; rintro e w5 ⟨rfl, hx⟩; have r0 := r0.below hx r0.lt; have r1 := r1.below hx r1.lt; have r2 := r2.below hx r2.lt; have r3 := r3.below hx r3.lt; have HOL := HOL.keep hx; have ab := ab.trans (hx.mono ab.size); clear hx; have tk6 : Hid (2 = 2) := rfl)
                      | (have hh := tk6; clear hh tk6; refine load_row_g rfl 26 (.tmp 5) rfl s0 rfl 26 (bs p) r0 224 5 Try.underlying26 size26 hpb ?_; have tk7 : Hid (2 = 2) := rfl)
                      | (have hh := tk7; clear hh tk7; go_at_call 12; refine (HLP.out _).mono ?_; clear HLP; rintro e w6 ⟨rfl, hx⟩; have r0 := r0.below hx r0.lt; have r1 := r1.below hx r1.lt; have r2 := r2.below hx r2.lt; have r3 := r3.below hx r3.lt; have HOL := HOL.keep hx; have ab := ab.trans (hx.mono ab.size); clear hx; have tk8 : Hid (2 = 2) := rfl)
                      | (have hh := tk8; clear hh tk8; refine load_cells_g rfl 24 (.tmp 8) rfl g3 rfl 24 #[.bool u, .int .u16 no] r3 2 Try.underlying24 rfl size24 rfl ?_; have tk9 : Hid (2 = 2) := rfl)
                      | (have hh := tk9; clear hh tk9; refine load_row_g rfl 26 (.tmp 6) rfl g1 rfl 26 (bs q) r1 224 5 Try.underlying26 size26 hqb ?_; have tk10 : Hid (2 = 2) := rfl)
                      | (have hh := tk10; clear hh tk10; go_at_call 11; refine (HTQ.out _).mono ?_; clear HTQ; rintro e w7 ⟨rfl, hx⟩; have r0 := r0.below hx r0.lt; have r1 := r1.below hx r1.lt; have r2 := r2.below hx r2.lt; have r3 := r3.below hx r3.lt; have HOL := HOL.keep hx; have ab := ab.trans (hx.mono ab.size); clear hx; have tk11 : Hid (2 = 2) := rfl)
                      | (have hh := tk11; clear hh tk11; refine load_row_g rfl 26 (.tmp 6) rfl g1 rfl 26 (bs q) r1 224 5 Try.underlying26 size26 hqb ?_; have tk12 : Hid (2 = 2) := rfl)
                      | (have hh := tk12; clear hh tk12; go_at_call 12; refine (HLQ.out _).mono ?_; clear HLQ; rintro e wz ⟨rfl, hx⟩; have r0 := r0.below hx r0.lt; have r1 := r1.below hx r1.lt; have r2 := r2.below hx r2.lt; have r3 := r3.below hx r3.lt; have HOL := HOL.keep hx; have ab := ab.trans (hx.mono ab.size); clear hx; have tk13 : Hid (2 = 2) := rfl)
                      | (have hh := tk13; clear hh tk13; go_at_call 7; refine (HAW.out _).mono ?_; rintro e w9 ⟨rfl, hx⟩; have ab := ab.trans (hx.mono ab.size); have tk14 : Hid (2 = 2) := rfl))
                  go_ret
                  exact ⟨rfl, ab⟩)
              · have hqo : isP u no q = true → lsnOf q ≤ 0 := fun _ => by omega
                have d3' : decide (0 < lsnOf q) = false := decide_eq_false d3
                clear d3
                generalize HLQQ : lsnOf q = lq at HLQ d3'
                rw [HLQQ] at hqo
                as_aux_lemma => (
                  have hsame : replayR u no q (E :: l.map bump) = replayR u no p (E :: l.map bump) := by rw [← HE.out]; exact torn_same u no img q p _ 1 (by decide) c1 (by rw [HLQQ]; exact hqo) hpo
                  have hright : isP u no (replayR u no p (E :: l.map bump)) = true := by rw [← HE.out]; exact torn_right u no img p _ 1 (by decide) c1 hpo hno hp hbp (by rw [HE.out]; exact HFL.out)
                  have HR1 : Hid _ := fun (w : World) (h : Log w lg (E :: l.map bump)) => HRE.out w lg p h hp hbp
                  have HR2 : Hid _ := fun (w : World) (h : Log w lg (E :: l.map bump)) => HRE.out w lg q h hq hbq
                  rw [hsame] at HR2
                  have hP1 := replayR_ok u no p (E :: l.map bump) HFL.out hp hbp
                  have HRT : Hid _ := fun w => right_any u no (replayR u no p (E :: l.map bump)) w hno hP1.1 hP1.2
                  rw [hright] at HRT
                  clear hsame hright HRE
                  generalize replayR u no p (E :: l.map bump) = P1 at HR1 HR2 HRT hP1
                  have hP1b : (bs P1).size = 224 := by rw [bs_size, hP1.1]
                  have heq := equal26 P1 P1 hP1.1 hP1.1
                  simp only [decide_true] at heq
                  obtain ⟨LL, HLL2⟩ : ∃ LL, Hid ((E :: l.map bump) = LL) := ⟨_, rfl⟩
                  rw [HLL2.out] at HOL HR1 HR2
                  have HIM : Hid (∀ x ∈ LL, x.r.img.length = 224) := fun x hx => (HFL.out x (by rw [HLL2.out]; exact hx)).r.len
                  have tk0 : Hid (2 = 2) := rfl
                  go_upto_region 10 with (first
                      | (have hh := tk0; clear hh tk0; refine load_cells rfl 24 (.tmp 8) rfl g3 rfl 24 #[.bool u, .int .u16 no] r3 2 Try.underlying24 rfl size24 rfl ?_; have tk1 : Hid (2 = 2) := rfl)
                      | (have hh := tk1; clear hh tk1; refine load_row rfl 26 (.tmp 7) rfl g2 rfl 26 (bs img) r2 224 5 Try.underlying26 size26 hib ?_; have tk2 : Hid (2 = 2) := rfl)
                      | (have hh := tk2; clear hh tk2; go_at_call 11; refine (HTI.out _).mono ?_; clear HTI; rintro e w4 ⟨rfl, hx⟩; have r0 := r0.below hx r0.lt; have r1 := r1.below hx r1.lt; have r2 := r2.below hx r2.lt; have r3 := r3.below hx r3.lt; have HOL := HOL.keep hx; have ab := ab.trans (hx.mono ab.size); clear hx; have tk3 : Hid (2 = 2) := rfl)
                      | (have hh := tk3; clear hh tk3; refine load_cells_g rfl 24 (.tmp 8) rfl g3 rfl 24 #[.bool u, .int .u16 no] r3 2 Try.underlying24 rfl size24 rfl ?_; have tk4 : Hid (2 = 2) := rfl)
                      | (have hh := tk4; clear hh tk4; refine load_row_g rfl 26 (.tmp 5) rfl s0 rfl 26 (bs p) r0 224 5 Try.underlying26 size26 hpb ?_; have tk5 : Hid (2 = 2) := rfl)
                      | (have hh := tk5; clear hh tk5; go_at_call 11; refine (HTP.out _).mono ?_; clear HTP; rintro e w5 ⟨rfl, hx⟩; have r0 := r0.below hx r0.lt; have r1 := r1.below hx r1.lt; have r2 := r2.below hx r2.lt; have r3 := r3.below hx r3.lt; have HOL := HOL.keep hx; have ab := ab.trans (hx.mono ab.size); clear hx; have tk6 : Hid (2 = 2) := rfl)
                      | (have hh := tk6; clear hh tk6; refine load_row_g rfl 26 (.tmp 5) rfl s0 rfl 26 (bs p) r0 224 5 Try.underlying26 size26 hpb ?_; have tk7 : Hid (2 = 2) := rfl)
                      | (have hh := tk7; clear hh tk7; go_at_call 12; refine (HLP.out _).mono ?_; clear HLP; rintro e w6 ⟨rfl, hx⟩; have r0 := r0.below hx r0.lt; have r1 := r1.below hx r1.lt; have r2 := r2.below hx r2.lt; have r3 := r3.below hx r3.lt; have HOL := HOL.keep hx; have ab := ab.trans (hx.mono ab.size); clear hx; have tk8 : Hid (2 = 2) := rfl)
                      | (have hh := tk8; clear hh tk8; refine load_cells_g rfl 24 (.tmp 8) rfl g3 rfl 24 #[.bool u, .int .u16 no] r3 2 Try.underlying24 rfl size24 rfl ?_; have tk9 : Hid (2 = 2) := rfl)
                      | (have hh := tk9; clear hh tk9; refine load_row_g rfl 26 (.tmp 6) rfl g1 rfl 26 (bs q) r1 224 5 Try.underlying26 size26 hqb ?_; have tk10 : Hid (2 = 2) := rfl)
                      | (have hh := tk10; clear hh tk10; go_at_call 11; refine (HTQ.out _).mono ?_; clear HTQ; rintro e w7 ⟨rfl, hx⟩; have r0 := r0.below hx r0.lt; have r1 := r1.below hx r1.lt; have r2 := r2.below hx r2.lt; have r3 := r3.below hx r3.lt; have HOL := HOL.keep hx; have ab := ab.trans (hx.mono ab.size); clear hx; have tk11 : Hid (2 = 2) := rfl)
                      | (have hh := tk11; clear hh tk11; refine load_row_g rfl 26 (.tmp 6) rfl g1 rfl 26 (bs q) r1 224 5 Try.underlying26 size26 hqb ?_; have tk12 : Hid (2 = 2) := rfl)
                      | (have hh := tk12; clear hh tk12; go_at_call 12; refine (HLQ.out _).mono ?_; clear HLQ; rintro e wz ⟨rfl, hx⟩; have r0 := r0.below hx r0.lt; have r1 := r1.below hx r1.lt; have r2 := r2.below hx r2.lt; have r3 := r3.below hx r3.lt; have HOL := HOL.keep hx; have ab := ab.trans (hx.mono ab.size); clear hx; have tk13 : Hid (2 = 2) := rfl))
                  have tk0 : Hid (2 = 2) := rfl
                  go_upto_region 11 with (first
                      | (have hh := tk0; clear hh tk0; refine load_cells rfl 24 (.tmp 8) rfl g3 rfl 24 #[.bool u, .int .u16 no] r3 2 Try.underlying24 rfl size24 rfl ?_; have tk1 : Hid (2 = 2) := rfl)
                      | (have hh := tk1; clear hh tk1; refine load_row rfl 26 (.tmp 5) rfl s0 rfl 26 (bs p) r0 224 5 Try.underlying26 size26 hpb ?_; have tk2 : Hid (2 = 2) := rfl)
                      | (have hh := tk2; clear hh tk2; go_at_call 8; refine (HR1.out _ (HOL.own.log HIM.out)).mono ?_; clear HR1; rintro e w8 ⟨rfl, hx⟩; have r0 := r0.below hx r0.lt; have r1 := r1.below hx r1.lt; have r3 := r3.below hx r3.lt; have HOL := HOL.keep hx; have ab := ab.trans (hx.mono ab.size); clear hx; have q2 : Row (w8.alloc (.cells (bs (zs 224)) 26)) w8.heap.size (bs (zs 224)) 26 := Row.new _ _ _; have tk3 : Hid (2 = 2) := rfl)
                      | (have hh := tk3; clear hh tk3; refine store_row rfl 26 (.tmp 14) (.tmp 64) rfl w8.heap.size P1 rfl rfl 26 _ q2 224 size26 (by rw [bs_size, zs_length]) hP1.1 ?_; have tk4 : Hid (2 = 2) := rfl))
                  have l1 := r1.lt
                  have l3 := r3.lt
                  have HOL := HOL.keep (below_setRow ((Below.refl _ _).alloc (Nat.le_refl _) (.cells (bs (zs 224)) 26)) (Nat.le_refl _) (bs P1))
                  have r1 := (r1.alloc (.cells (bs (zs 224)) 26)).other (g := w8.heap.size) (by omega) (bs P1)
                  have r3 := (r3.alloc (.cells (bs (zs 224)) 26)).other (g := w8.heap.size) (by omega) (bs P1)
                  have q2 := q2.set (bs P1)
                  have ab := below_setRow (ab.alloc ab.size (.cells (bs (zs 224)) 26)) ab.size (bs P1)
                  clear r0 r2
                  generalize (w8.alloc (.cells (bs (zs 224)) 26)).setRow w8.heap.size (bs P1) = w9 at r1 r3 q2 ab HOL ⊢
                  generalize w8.heap.size = g9 at q2 l1 l3 ⊢
                  refine wp_region_held_drew (S := fun w' => Row w' g3 #[.bool u, .int .u16 no] 24 ∧ Row w' g9 (bs P1) 26 ∧ Row w' g1 (bs q) 26 ∧ Below w9.heap.size w9 w') (by kernel_rfl) ⟨r3, q2, r1, (Below.refl _ _).drew⟩ fun hS => ?_
                  refine wpAnyH_take (i := 0) (v := .agg (bs P1)) rfl (by kernel_rfl) (by kernel_rfl) (by kernel_rfl) (fun _ _ _ h => h) (yields_row (by rfl) 26 (.tmp 14) rfl g9 rfl 26 (bs P1) (fun w h => h.2.1) 224 5 Try.underlying26 size26 hP1b) hS ?_
                  try simp only [Act.put, List.getElem_toArray, List.getElem_cons_zero, List.getElem_cons_succ, List.setIfInBounds_toArray, List.set_cons_zero, List.set_cons_succ]
                  refine wpAnyH_take (i := 1) (v := .agg #[.bool u, .int .u16 no]) rfl (by kernel_rfl) (by kernel_rfl) (by kernel_rfl) (fun _ _ _ h => h) (yields_cells (by rfl) 24 (.tmp 8) rfl g3 rfl 24 #[.bool u, .int .u16 no] (fun w h => h.1) 2 Try.underlying24 rfl size24 rfl) hS ?_
                  try simp only [Act.put, List.getElem_toArray, List.getElem_cons_zero, List.getElem_cons_succ, List.setIfInBounds_toArray, List.set_cons_zero, List.set_cons_succ]
                  refine wpAnyH_take (i := 2) (v := .agg (bs q)) rfl (by kernel_rfl) (by kernel_rfl) (by kernel_rfl) (fun _ _ _ h => h) (yields_row (by rfl) 26 (.tmp 6) rfl g1 rfl 26 (bs q) (fun w h => h.2.2.1) 224 5 Try.underlying26 size26 hqb) hS ?_
                  try simp only [Act.put, List.getElem_toArray, List.getElem_cons_zero, List.getElem_cons_succ, List.setIfInBounds_toArray, List.set_cons_zero, List.set_cons_succ]
                  refine wpAnyH_take (i := 3) (v := lg) rfl (by kernel_rfl) (by kernel_rfl) (by kernel_rfl) (fun _ _ _ h => h) (Or.inl ⟨by rfl, fun w _ => by go_simp⟩) hS ?_
                  try simp only [Act.put, List.getElem_toArray, List.getElem_cons_zero, List.getElem_cons_succ, List.setIfInBounds_toArray, List.set_cons_zero, List.set_cons_succ]
                  refine wpAnyH_ready (rs := [4]) (by kernel_rfl) (by simp) ?_
                  refine AllReadyH.cons rfl (fun K hK => ?_) AllReadyH.nil
                  go_simp
                  go_at_call 8
                  refine Calls.mono (HR2.out _ ((HOL.keep hS.2.2.2).own.log HIM.out)) ?_
                  rintro e wc ⟨rfl, hcb⟩
                  refine hK.out _ _ (⟨hS.1.below hcb hS.1.lt, hS.2.1.below hcb hS.2.1.lt, hS.2.2.1.below hcb hS.2.2.1.lt, hS.2.2.2.trans (hcb.mono hS.2.2.2.size)⟩) fun hS => ?_
                  try simp only [Act.put, List.getElem_toArray, List.getElem_cons_zero, List.getElem_cons_succ, List.setIfInBounds_toArray, List.set_cons_zero, List.set_cons_succ]
                  clear hcb
                  refine wpAnyH_take (i := 5) (v := .bool true) rfl (by kernel_rfl) (by kernel_rfl) (by kernel_rfl) (fun _ _ _ h => h) (yields_eq (by rfl) 26 26 (.tmp 65) (.tmp 69) rfl (bs P1) (bs P1) rfl rfl Try.eqGuardType26 true heq) hS ?_
                  try simp only [Act.put, List.getElem_toArray, List.getElem_cons_zero, List.getElem_cons_succ, List.setIfInBounds_toArray, List.set_cons_zero, List.set_cons_succ]
                  refine wpAnyH_take (i := 6) (v := .bool true) rfl (by kernel_rfl) (by kernel_rfl) (by kernel_rfl) (fun _ _ _ h => h) (Or.inl ⟨by rfl, fun w _ => by go_simp⟩) hS ?_
                  try simp only [Act.put, List.getElem_toArray, List.getElem_cons_zero, List.getElem_cons_succ, List.setIfInBounds_toArray, List.set_cons_zero, List.set_cons_succ]
                  refine wpAnyH_take (i := 7) (v := .agg #[.bool u, .int .u16 no]) rfl (by kernel_rfl) (by kernel_rfl) (by kernel_rfl) (fun _ _ _ h => h) (yields_cells (by rfl) 24 (.tmp 8) rfl g3 rfl 24 #[.bool u, .int .u16 no] (fun w h => h.1) 2 Try.underlying24 rfl size24 rfl) hS ?_
                  try simp only [Act.put, List.getElem_toArray, List.getElem_cons_zero, List.getElem_cons_succ, List.setIfInBounds_toArray, List.set_cons_zero, List.set_cons_succ]
                  refine wpAnyH_take (i := 8) (v := .agg (bs P1)) rfl (by kernel_rfl) (by kernel_rfl) (by kernel_rfl) (fun _ _ _ h => h) (yields_row (by rfl) 26 (.tmp 14) rfl g9 rfl 26 (bs P1) (fun w h => h.2.1) 224 5 Try.underlying26 size26 hP1b) hS ?_
                  try simp only [Act.put, List.getElem_toArray, List.getElem_cons_zero, List.getElem_cons_succ, List.setIfInBounds_toArray, List.set_cons_zero, List.set_cons_succ]
                  refine wpAnyH_ready (rs := [9]) (by kernel_rfl) (by simp) ?_
                  refine AllReadyH.cons rfl (fun K hK => ?_) AllReadyH.nil
                  go_simp
                  go_at_call 11
                  refine Calls.mono (HRT.out _) ?_
                  rintro e w2_9 ⟨rfl, hcb⟩
                  refine hK.out _ _ (⟨hS.1.below hcb hS.1.lt, hS.2.1.below hcb hS.2.1.lt, hS.2.2.1.below hcb hS.2.2.1.lt, hS.2.2.2.trans (hcb.mono hS.2.2.2.size)⟩) fun hS => ?_
                  try simp only [Act.put, List.getElem_toArray, List.getElem_cons_zero, List.getElem_cons_succ, List.setIfInBounds_toArray, List.set_cons_zero, List.set_cons_succ]
                  clear hcb
                  refine wpAnyH_take (i := 10) (v := .bool true) rfl (by kernel_rfl) (by kernel_rfl) (by kernel_rfl) (fun _ _ _ h => h) (Or.inl ⟨by rfl, fun w _ => by go_simp⟩) hS ?_
                  try simp only [Act.put, List.getElem_toArray, List.getElem_cons_zero, List.getElem_cons_succ, List.setIfInBounds_toArray, List.set_cons_zero, List.set_cons_succ]
                  refine wpAnyH_take (i := 11) (v := .bool true) rfl (by kernel_rfl) (by kernel_rfl) (by kernel_rfl) (fun _ _ _ h => h) (Or.inl ⟨by rfl, fun w _ => by go_simp⟩) hS ?_
                  try simp only [Act.put, List.getElem_toArray, List.getElem_cons_zero, List.getElem_cons_succ, List.setIfInBounds_toArray, List.set_cons_zero, List.set_cons_succ]
                  refine wpAnyH_ready (rs := [12]) (by kernel_rfl) (by simp) ?_
                  refine AllReadyH.cons rfl (fun K hK => ?_) AllReadyH.nil
                  go_simp
                  go_at_call 7
                  refine Calls.mono (HAW.out _) ?_
                  rintro e w3_12 ⟨rfl, hcb⟩
                  refine hK.out _ _ (⟨hS.1.below hcb hS.1.lt, hS.2.1.below hcb hS.2.1.lt, hS.2.2.1.below hcb hS.2.2.1.lt, hS.2.2.2.trans (hcb.mono hS.2.2.2.size)⟩) fun hS => ?_
                  try simp only [Act.put, List.getElem_toArray, List.getElem_cons_zero, List.getElem_cons_succ, List.setIfInBounds_toArray, List.set_cons_zero, List.set_cons_succ]
                  clear hcb
                  refine wpAnyH_take (i := 13) (v := .bool true) rfl (by kernel_rfl) (by kernel_rfl) (by kernel_rfl) (fun _ _ _ h => h) (Or.inl ⟨by rfl, fun w _ => by go_simp⟩) hS ?_
                  try simp only [Act.put, List.getElem_toArray, List.getElem_cons_zero, List.getElem_cons_succ, List.setIfInBounds_toArray, List.set_cons_zero, List.set_cons_succ]
                  refine wpAnyH_take (i := 14) (v := .bool true) rfl (by kernel_rfl) (by kernel_rfl) (by kernel_rfl) (fun _ _ _ h => h) (Or.inl ⟨by rfl, fun w _ => by go_simp⟩) hS ?_
                  try simp only [Act.put, List.getElem_toArray, List.getElem_cons_zero, List.getElem_cons_succ, List.setIfInBounds_toArray, List.set_cons_zero, List.set_cons_succ]
                  refine wpAnyH_done (by kernel_rfl) ?_ _
                  go_wp2
                  go_ret
                  exact ⟨rfl, ab.trans (hS.2.2.2.mono ab.size)⟩)
            · have c3 : isP u no q = false := by simpa using c3
              have hqo : isP u no q = true → lsnOf q ≤ 0 := fun h => by rw [c3] at h; cases h
              rw [c3] at HTQ
              as_aux_lemma => (
                have hsame : replayR u no q (E :: l.map bump) = replayR u no p (E :: l.map bump) := by rw [← HE.out]; exact torn_same u no img q p _ 1 (by decide) c1 hqo hpo
                have hright : isP u no (replayR u no p (E :: l.map bump)) = true := by rw [← HE.out]; exact torn_right u no img p _ 1 (by decide) c1 hpo hno hp hbp (by rw [HE.out]; exact HFL.out)
                have HR1 : Hid _ := fun (w : World) (h : Log w lg (E :: l.map bump)) => HRE.out w lg p h hp hbp
                have HR2 : Hid _ := fun (w : World) (h : Log w lg (E :: l.map bump)) => HRE.out w lg q h hq hbq
                rw [hsame] at HR2
                have hP1 := replayR_ok u no p (E :: l.map bump) HFL.out hp hbp
                have HRT : Hid _ := fun w => right_any u no (replayR u no p (E :: l.map bump)) w hno hP1.1 hP1.2
                rw [hright] at HRT
                clear hsame hright HRE
                generalize replayR u no p (E :: l.map bump) = P1 at HR1 HR2 HRT hP1
                have hP1b : (bs P1).size = 224 := by rw [bs_size, hP1.1]
                have heq := equal26 P1 P1 hP1.1 hP1.1
                simp only [decide_true] at heq
                obtain ⟨LL, HLL2⟩ : ∃ LL, Hid ((E :: l.map bump) = LL) := ⟨_, rfl⟩
                rw [HLL2.out] at HOL HR1 HR2
                have HIM : Hid (∀ x ∈ LL, x.r.img.length = 224) := fun x hx => (HFL.out x (by rw [HLL2.out]; exact hx)).r.len
                have tk0 : Hid (2 = 2) := rfl
                go_upto_region 10 with (first
                    | (have hh := tk0; clear hh tk0; refine load_cells rfl 24 (.tmp 8) rfl g3 rfl 24 #[.bool u, .int .u16 no] r3 2 Try.underlying24 rfl size24 rfl ?_; have tk1 : Hid (2 = 2) := rfl)
                    | (have hh := tk1; clear hh tk1; refine load_row rfl 26 (.tmp 7) rfl g2 rfl 26 (bs img) r2 224 5 Try.underlying26 size26 hib ?_; have tk2 : Hid (2 = 2) := rfl)
                    | (have hh := tk2; clear hh tk2; go_at_call 11; refine (HTI.out _).mono ?_; clear HTI; rintro e w4 ⟨rfl, hx⟩; have r0 := r0.below hx r0.lt; have r1 := r1.below hx r1.lt; have r2 := r2.below hx r2.lt; have r3 := r3.below hx r3.lt; have HOL := HOL.keep hx; have ab := ab.trans (hx.mono ab.size); clear hx; have tk3 : Hid (2 = 2) := rfl)
                    | (have hh := tk3; clear hh tk3; refine load_cells_g rfl 24 (.tmp 8) rfl g3 rfl 24 #[.bool u, .int .u16 no] r3 2 Try.underlying24 rfl size24 rfl ?_; have tk4 : Hid (2 = 2) := rfl)
                    | (have hh := tk4; clear hh tk4; refine load_row_g rfl 26 (.tmp 5) rfl s0 rfl 26 (bs p) r0 224 5 Try.underlying26 size26 hpb ?_; have tk5 : Hid (2 = 2) := rfl)
                    | (have hh := tk5; clear hh tk5; go_at_call 11; refine (HTP.out _).mono ?_; clear HTP; rintro e w5 ⟨rfl, hx⟩; have r0 := r0.below hx r0.lt; have r1 := r1.below hx r1.lt; have r2 := r2.below hx r2.lt; have r3 := r3.below hx r3.lt; have HOL := HOL.keep hx; have ab := ab.trans (hx.mono ab.size); clear hx; have tk6 : Hid (2 = 2) := rfl)
                    | (have hh := tk6; clear hh tk6; refine load_row_g rfl 26 (.tmp 5) rfl s0 rfl 26 (bs p) r0 224 5 Try.underlying26 size26 hpb ?_; have tk7 : Hid (2 = 2) := rfl)
                    | (have hh := tk7; clear hh tk7; go_at_call 12; refine (HLP.out _).mono ?_; clear HLP; rintro e w6 ⟨rfl, hx⟩; have r0 := r0.below hx r0.lt; have r1 := r1.below hx r1.lt; have r2 := r2.below hx r2.lt; have r3 := r3.below hx r3.lt; have HOL := HOL.keep hx; have ab := ab.trans (hx.mono ab.size); clear hx; have tk8 : Hid (2 = 2) := rfl)
                    | (have hh := tk8; clear hh tk8; refine load_cells_g rfl 24 (.tmp 8) rfl g3 rfl 24 #[.bool u, .int .u16 no] r3 2 Try.underlying24 rfl size24 rfl ?_; have tk9 : Hid (2 = 2) := rfl)
                    | (have hh := tk9; clear hh tk9; refine load_row_g rfl 26 (.tmp 6) rfl g1 rfl 26 (bs q) r1 224 5 Try.underlying26 size26 hqb ?_; have tk10 : Hid (2 = 2) := rfl)
                    | (have hh := tk10; clear hh tk10; go_at_call 11; refine (HTQ.out _).mono ?_; clear HTQ; rintro e w7 ⟨rfl, hx⟩; have r0 := r0.below hx r0.lt; have r1 := r1.below hx r1.lt; have r2 := r2.below hx r2.lt; have r3 := r3.below hx r3.lt; have HOL := HOL.keep hx; have ab := ab.trans (hx.mono ab.size); clear hx; have tk11 : Hid (2 = 2) := rfl))
                have tk0 : Hid (2 = 2) := rfl
                go_upto_region 11 with (first
                    | (have hh := tk0; clear hh tk0; refine load_cells rfl 24 (.tmp 8) rfl g3 rfl 24 #[.bool u, .int .u16 no] r3 2 Try.underlying24 rfl size24 rfl ?_; have tk1 : Hid (2 = 2) := rfl)
                    | (have hh := tk1; clear hh tk1; refine load_row rfl 26 (.tmp 5) rfl s0 rfl 26 (bs p) r0 224 5 Try.underlying26 size26 hpb ?_; have tk2 : Hid (2 = 2) := rfl)
                    | (have hh := tk2; clear hh tk2; go_at_call 8; refine (HR1.out _ (HOL.own.log HIM.out)).mono ?_; clear HR1; rintro e w8 ⟨rfl, hx⟩; have r0 := r0.below hx r0.lt; have r1 := r1.below hx r1.lt; have r3 := r3.below hx r3.lt; have HOL := HOL.keep hx; have ab := ab.trans (hx.mono ab.size); clear hx; have q2 : Row (w8.alloc (.cells (bs (zs 224)) 26)) w8.heap.size (bs (zs 224)) 26 := Row.new _ _ _; have tk3 : Hid (2 = 2) := rfl)
                    | (have hh := tk3; clear hh tk3; refine store_row rfl 26 (.tmp 14) (.tmp 64) rfl w8.heap.size P1 rfl rfl 26 _ q2 224 size26 (by rw [bs_size, zs_length]) hP1.1 ?_; have tk4 : Hid (2 = 2) := rfl))
                have l1 := r1.lt
                have l3 := r3.lt
                have HOL := HOL.keep (below_setRow ((Below.refl _ _).alloc (Nat.le_refl _) (.cells (bs (zs 224)) 26)) (Nat.le_refl _) (bs P1))
                have r1 := (r1.alloc (.cells (bs (zs 224)) 26)).other (g := w8.heap.size) (by omega) (bs P1)
                have r3 := (r3.alloc (.cells (bs (zs 224)) 26)).other (g := w8.heap.size) (by omega) (bs P1)
                have q2 := q2.set (bs P1)
                have ab := below_setRow (ab.alloc ab.size (.cells (bs (zs 224)) 26)) ab.size (bs P1)
                clear r0 r2
                generalize (w8.alloc (.cells (bs (zs 224)) 26)).setRow w8.heap.size (bs P1) = w9 at r1 r3 q2 ab HOL ⊢
                generalize w8.heap.size = g9 at q2 l1 l3 ⊢
                refine wp_region_held_drew (S := fun w' => Row w' g3 #[.bool u, .int .u16 no] 24 ∧ Row w' g9 (bs P1) 26 ∧ Row w' g1 (bs q) 26 ∧ Below w9.heap.size w9 w') (by kernel_rfl) ⟨r3, q2, r1, (Below.refl _ _).drew⟩ fun hS => ?_
                refine wpAnyH_take (i := 0) (v := .agg (bs P1)) rfl (by kernel_rfl) (by kernel_rfl) (by kernel_rfl) (fun _ _ _ h => h) (yields_row (by rfl) 26 (.tmp 14) rfl g9 rfl 26 (bs P1) (fun w h => h.2.1) 224 5 Try.underlying26 size26 hP1b) hS ?_
                try simp only [Act.put, List.getElem_toArray, List.getElem_cons_zero, List.getElem_cons_succ, List.setIfInBounds_toArray, List.set_cons_zero, List.set_cons_succ]
                refine wpAnyH_take (i := 1) (v := .agg #[.bool u, .int .u16 no]) rfl (by kernel_rfl) (by kernel_rfl) (by kernel_rfl) (fun _ _ _ h => h) (yields_cells (by rfl) 24 (.tmp 8) rfl g3 rfl 24 #[.bool u, .int .u16 no] (fun w h => h.1) 2 Try.underlying24 rfl size24 rfl) hS ?_
                try simp only [Act.put, List.getElem_toArray, List.getElem_cons_zero, List.getElem_cons_succ, List.setIfInBounds_toArray, List.set_cons_zero, List.set_cons_succ]
                refine wpAnyH_take (i := 2) (v := .agg (bs q)) rfl (by kernel_rfl) (by kernel_rfl) (by kernel_rfl) (fun _ _ _ h => h) (yields_row (by rfl) 26 (.tmp 6) rfl g1 rfl 26 (bs q) (fun w h => h.2.2.1) 224 5 Try.underlying26 size26 hqb) hS ?_
                try simp only [Act.put, List.getElem_toArray, List.getElem_cons_zero, List.getElem_cons_succ, List.setIfInBounds_toArray, List.set_cons_zero, List.set_cons_succ]
                refine wpAnyH_take (i := 3) (v := lg) rfl (by kernel_rfl) (by kernel_rfl) (by kernel_rfl) (fun _ _ _ h => h) (Or.inl ⟨by rfl, fun w _ => by go_simp⟩) hS ?_
                try simp only [Act.put, List.getElem_toArray, List.getElem_cons_zero, List.getElem_cons_succ, List.setIfInBounds_toArray, List.set_cons_zero, List.set_cons_succ]
                refine wpAnyH_ready (rs := [4]) (by kernel_rfl) (by simp) ?_
                refine AllReadyH.cons rfl (fun K hK => ?_) AllReadyH.nil
                go_simp
                go_at_call 8
                refine Calls.mono (HR2.out _ ((HOL.keep hS.2.2.2).own.log HIM.out)) ?_
                rintro e wc ⟨rfl, hcb⟩
                refine hK.out _ _ (⟨hS.1.below hcb hS.1.lt, hS.2.1.below hcb hS.2.1.lt, hS.2.2.1.below hcb hS.2.2.1.lt, hS.2.2.2.trans (hcb.mono hS.2.2.2.size)⟩) fun hS => ?_
                try simp only [Act.put, List.getElem_toArray, List.getElem_cons_zero, List.getElem_cons_succ, List.setIfInBounds_toArray, List.set_cons_zero, List.set_cons_succ]
                clear hcb
                refine wpAnyH_take (i := 5) (v := .bool true) rfl (by kernel_rfl) (by kernel_rfl) (by kernel_rfl) (fun _ _ _ h => h) (yields_eq (by rfl) 26 26 (.tmp 65) (.tmp 69) rfl (bs P1) (bs P1) rfl rfl Try.eqGuardType26 true heq) hS ?_
                try simp only [Act.put, List.getElem_toArray, List.getElem_cons_zero, List.getElem_cons_succ, List.setIfInBounds_toArray, List.set_cons_zero, List.set_cons_succ]
                refine wpAnyH_take (i := 6) (v := .bool true) rfl (by kernel_rfl) (by kernel_rfl) (by kernel_rfl) (fun _ _ _ h => h) (Or.inl ⟨by rfl, fun w _ => by go_simp⟩) hS ?_
                try simp only [Act.put, List.getElem_toArray, List.getElem_cons_zero, List.getElem_cons_succ, List.setIfInBounds_toArray, List.set_cons_zero, List.set_cons_succ]
                refine wpAnyH_take (i := 7) (v := .agg #[.bool u, .int .u16 no]) rfl (by kernel_rfl) (by kernel_rfl) (by kernel_rfl) (fun _ _ _ h => h) (yields_cells (by rfl) 24 (.tmp 8) rfl g3 rfl 24 #[.bool u, .int .u16 no] (fun w h => h.1) 2 Try.underlying24 rfl size24 rfl) hS ?_
                try simp only [Act.put, List.getElem_toArray, List.getElem_cons_zero, List.getElem_cons_succ, List.setIfInBounds_toArray, List.set_cons_zero, List.set_cons_succ]
                refine wpAnyH_take (i := 8) (v := .agg (bs P1)) rfl (by kernel_rfl) (by kernel_rfl) (by kernel_rfl) (fun _ _ _ h => h) (yields_row (by rfl) 26 (.tmp 14) rfl g9 rfl 26 (bs P1) (fun w h => h.2.1) 224 5 Try.underlying26 size26 hP1b) hS ?_
                try simp only [Act.put, List.getElem_toArray, List.getElem_cons_zero, List.getElem_cons_succ, List.setIfInBounds_toArray, List.set_cons_zero, List.set_cons_succ]
                refine wpAnyH_ready (rs := [9]) (by kernel_rfl) (by simp) ?_
                refine AllReadyH.cons rfl (fun K hK => ?_) AllReadyH.nil
                go_simp
                go_at_call 11
                refine Calls.mono (HRT.out _) ?_
                rintro e w2_9 ⟨rfl, hcb⟩
                refine hK.out _ _ (⟨hS.1.below hcb hS.1.lt, hS.2.1.below hcb hS.2.1.lt, hS.2.2.1.below hcb hS.2.2.1.lt, hS.2.2.2.trans (hcb.mono hS.2.2.2.size)⟩) fun hS => ?_
                try simp only [Act.put, List.getElem_toArray, List.getElem_cons_zero, List.getElem_cons_succ, List.setIfInBounds_toArray, List.set_cons_zero, List.set_cons_succ]
                clear hcb
                refine wpAnyH_take (i := 10) (v := .bool true) rfl (by kernel_rfl) (by kernel_rfl) (by kernel_rfl) (fun _ _ _ h => h) (Or.inl ⟨by rfl, fun w _ => by go_simp⟩) hS ?_
                try simp only [Act.put, List.getElem_toArray, List.getElem_cons_zero, List.getElem_cons_succ, List.setIfInBounds_toArray, List.set_cons_zero, List.set_cons_succ]
                refine wpAnyH_take (i := 11) (v := .bool true) rfl (by kernel_rfl) (by kernel_rfl) (by kernel_rfl) (fun _ _ _ h => h) (Or.inl ⟨by rfl, fun w _ => by go_simp⟩) hS ?_
                try simp only [Act.put, List.getElem_toArray, List.getElem_cons_zero, List.getElem_cons_succ, List.setIfInBounds_toArray, List.set_cons_zero, List.set_cons_succ]
                refine wpAnyH_ready (rs := [12]) (by kernel_rfl) (by simp) ?_
                refine AllReadyH.cons rfl (fun K hK => ?_) AllReadyH.nil
                go_simp
                go_at_call 7
                refine Calls.mono (HAW.out _) ?_
                rintro e w3_12 ⟨rfl, hcb⟩
                refine hK.out _ _ (⟨hS.1.below hcb hS.1.lt, hS.2.1.below hcb hS.2.1.lt, hS.2.2.1.below hcb hS.2.2.1.lt, hS.2.2.2.trans (hcb.mono hS.2.2.2.size)⟩) fun hS => ?_
                try simp only [Act.put, List.getElem_toArray, List.getElem_cons_zero, List.getElem_cons_succ, List.setIfInBounds_toArray, List.set_cons_zero, List.set_cons_succ]
                clear hcb
                refine wpAnyH_take (i := 13) (v := .bool true) rfl (by kernel_rfl) (by kernel_rfl) (by kernel_rfl) (fun _ _ _ h => h) (Or.inl ⟨by rfl, fun w _ => by go_simp⟩) hS ?_
                try simp only [Act.put, List.getElem_toArray, List.getElem_cons_zero, List.getElem_cons_succ, List.setIfInBounds_toArray, List.set_cons_zero, List.set_cons_succ]
                refine wpAnyH_take (i := 14) (v := .bool true) rfl (by kernel_rfl) (by kernel_rfl) (by kernel_rfl) (fun _ _ _ h => h) (Or.inl ⟨by rfl, fun w _ => by go_simp⟩) hS ?_
                try simp only [Act.put, List.getElem_toArray, List.getElem_cons_zero, List.getElem_cons_succ, List.setIfInBounds_toArray, List.set_cons_zero, List.set_cons_succ]
                refine wpAnyH_done (by kernel_rfl) ?_ _
                go_wp2
                go_ret
                exact ⟨rfl, ab.trans (hS.2.2.2.mono ab.size)⟩)
        · have c2 : isP u no p = false := by simpa using c2
          have hpo : isP u no p = true → lsnOf p ≤ 0 := fun h => by rw [c2] at h; cases h
          rw [c2] at HTP
          by_cases c3 : isP u no q = true
          · rw [c3] at HTQ
            by_cases d3 : 0 < lsnOf q
            · have d3' := d3
              generalize lsnOf q = lq at HLQ d3'
              as_aux_lemma => (
                have tk0 : Hid (2 = 2) := rfl
                go_wp2_with (first
                    | (have hh := tk0; clear hh tk0; refine load_cells rfl 24 (.tmp 8) rfl g3 rfl 24 #[.bool u, .int .u16 no] r3 2 Try.underlying24 rfl size24 rfl ?_; have tk1 : Hid (2 = 2) := rfl)
                    | (have hh := tk1; clear hh tk1; refine load_row rfl 26 (.tmp 7) rfl g2 rfl 26 (bs img) r2 224 5 Try.underlying26 size26 hib ?_; have tk2 : Hid (2 = 2) := rfl)
                    | (have hh := tk2; clear hh tk2; go_at_call 11; refine (HTI.out _).mono ?_; clear HTI; rintro e w4 ⟨rfl, hx⟩; have r0 := r0.below hx r0.lt; have r1 := r1.below hx r1.lt; have r2 := r2.below hx r2.lt; have r3 := r3.below hx r3.lt; have HOL := HOL.keep hx; have ab := ab.trans (hx.mono ab.size); clear hx; have tk3 : Hid (2 = 2) := rfl)
                    | (have hh := tk3; clear hh tk3; refine load_cells_g rfl 24 (.tmp 8) rfl g3 rfl 24 #[.bool u, .int .u16 no] r3 2 Try.underlying24 rfl size24 rfl ?_; have tk4 : Hid (2 = 2) := rfl)
                    | (have hh := tk4; clear hh tk4; refine load_row_g rfl 26 (.tmp 5) rfl s0 rfl 26 (bs p) r0 224 5 Try.underlying26 size26 hpb ?_; have tk5 : Hid (2 = 2) := rfl)
                    | (have hh := tk5; clear hh tk5; go_at_call 11; refine (HTP.out _).mono ?_; clear HTP; rintro e w5 ⟨rfl, hx⟩; have r0 := r0.below hx r0.lt; have r1 := r1.below hx r1.lt; have r2 := r2.below hx r2.lt; have r3 := r3.below hx r3.lt; have HOL := HOL.keep hx; have ab := ab.trans (hx.mono ab.size); clear hx; have tk6 : Hid (2 = 2) := rfl)
                    | (have hh := tk6; clear hh tk6; refine load_cells_g rfl 24 (.tmp 8) rfl g3 rfl 24 #[.bool u, .int .u16 no] r3 2 Try.underlying24 rfl size24 rfl ?_; have tk7 : Hid (2 = 2) := rfl)
                    | (have hh := tk7; clear hh tk7; refine load_row_g rfl 26 (.tmp 6) rfl g1 rfl 26 (bs q) r1 224 5 Try.underlying26 size26 hqb ?_; have tk8 : Hid (2 = 2) := rfl)
                    | (have hh := tk8; clear hh tk8; go_at_call 11; refine (HTQ.out _).mono ?_; clear HTQ; rintro e w7 ⟨rfl, hx⟩; have r0 := r0.below hx r0.lt; have r1 := r1.below hx r1.lt; have r2 := r2.below hx r2.lt; have r3 := r3.below hx r3.lt; have HOL := HOL.keep hx; have ab := ab.trans (hx.mono ab.size); clear hx; have tk9 : Hid (2 = 2) := rfl)
                    | (have hh := tk9; clear hh tk9; refine load_row_g rfl 26 (.tmp 6) rfl g1 rfl 26 (bs q) r1 224 5 Try.underlying26 size26 hqb ?_; have tk10 : Hid (2 = 2) := rfl)
                    | (have hh := tk10; clear hh tk10; go_at_call 12; refine (HLQ.out _).mono ?_; clear HLQ; rintro e wz ⟨rfl, hx⟩; have r0 := r0.below hx r0.lt; have r1 := r1.below hx r1.lt; have r2 := r2.below hx r2.lt; have r3 := r3.below hx r3.lt; have HOL := HOL.keep hx; have ab := ab.trans (hx.mono ab.size); clear hx; have tk11 : Hid (2 = 2) := rfl)
                    | (have hh := tk11; clear hh tk11; go_at_call 7; refine (HAW.out _).mono ?_; rintro e w9 ⟨rfl, hx⟩; have ab := ab.trans (hx.mono ab.size); have tk12 : Hid (2 = 2) := rfl))
                go_ret
                exact ⟨rfl, ab⟩)
            · have hqo : isP u no q = true → lsnOf q ≤ 0 := fun _ => by omega
              have d3' : decide (0 < lsnOf q) = false := decide_eq_false d3
              clear d3
              generalize HLQQ : lsnOf q = lq at HLQ d3'
              rw [HLQQ] at hqo
              as_aux_lemma => (
                have hsame : replayR u no q (E :: l.map bump) = replayR u no p (E :: l.map bump) := by rw [← HE.out]; exact torn_same u no img q p _ 1 (by decide) c1 (by rw [HLQQ]; exact hqo) hpo
                have hright : isP u no (replayR u no p (E :: l.map bump)) = true := by rw [← HE.out]; exact torn_right u no img p _ 1 (by decide) c1 hpo hno hp hbp (by rw [HE.out]; exact HFL.out)
                have HR1 : Hid _ := fun (w : World) (h : Log w lg (E :: l.map bump)) => HRE.out w lg p h hp hbp
                have HR2 : Hid _ := fun (w : World) (h : Log w lg (E :: l.map bump)) => HRE.out w lg q h hq hbq
                rw [hsame] at HR2
                have hP1 := replayR_ok u no p (E :: l.map bump) HFL.out hp hbp
                have HRT : Hid _ := fun w => right_any u no (replayR u no p (E :: l.map bump)) w hno hP1.1 hP1.2
                rw [hright] at HRT
                clear hsame hright HRE
                generalize replayR u no p (E :: l.map bump) = P1 at HR1 HR2 HRT hP1
                have hP1b : (bs P1).size = 224 := by rw [bs_size, hP1.1]
                have heq := equal26 P1 P1 hP1.1 hP1.1
                simp only [decide_true] at heq
                obtain ⟨LL, HLL2⟩ : ∃ LL, Hid ((E :: l.map bump) = LL) := ⟨_, rfl⟩
                rw [HLL2.out] at HOL HR1 HR2
                have HIM : Hid (∀ x ∈ LL, x.r.img.length = 224) := fun x hx => (HFL.out x (by rw [HLL2.out]; exact hx)).r.len
                have tk0 : Hid (2 = 2) := rfl
                go_upto_region 10 with (first
                    | (have hh := tk0; clear hh tk0; refine load_cells rfl 24 (.tmp 8) rfl g3 rfl 24 #[.bool u, .int .u16 no] r3 2 Try.underlying24 rfl size24 rfl ?_; have tk1 : Hid (2 = 2) := rfl)
                    | (have hh := tk1; clear hh tk1; refine load_row rfl 26 (.tmp 7) rfl g2 rfl 26 (bs img) r2 224 5 Try.underlying26 size26 hib ?_; have tk2 : Hid (2 = 2) := rfl)
                    | (have hh := tk2; clear hh tk2; go_at_call 11; refine (HTI.out _).mono ?_; clear HTI; rintro e w4 ⟨rfl, hx⟩; have r0 := r0.below hx r0.lt; have r1 := r1.below hx r1.lt; have r2 := r2.below hx r2.lt; have r3 := r3.below hx r3.lt; have HOL := HOL.keep hx; have ab := ab.trans (hx.mono ab.size); clear hx; have tk3 : Hid (2 = 2) := rfl)
                    | (have hh := tk3; clear hh tk3; refine load_cells_g rfl 24 (.tmp 8) rfl g3 rfl 24 #[.bool u, .int .u16 no] r3 2 Try.underlying24 rfl size24 rfl ?_; have tk4 : Hid (2 = 2) := rfl)
                    | (have hh := tk4; clear hh tk4; refine load_row_g rfl 26 (.tmp 5) rfl s0 rfl 26 (bs p) r0 224 5 Try.underlying26 size26 hpb ?_; have tk5 : Hid (2 = 2) := rfl)
                    | (have hh := tk5; clear hh tk5; go_at_call 11; refine (HTP.out _).mono ?_; clear HTP; rintro e w5 ⟨rfl, hx⟩; have r0 := r0.below hx r0.lt; have r1 := r1.below hx r1.lt; have r2 := r2.below hx r2.lt; have r3 := r3.below hx r3.lt; have HOL := HOL.keep hx; have ab := ab.trans (hx.mono ab.size); clear hx; have tk6 : Hid (2 = 2) := rfl)
                    | (have hh := tk6; clear hh tk6; refine load_cells_g rfl 24 (.tmp 8) rfl g3 rfl 24 #[.bool u, .int .u16 no] r3 2 Try.underlying24 rfl size24 rfl ?_; have tk7 : Hid (2 = 2) := rfl)
                    | (have hh := tk7; clear hh tk7; refine load_row_g rfl 26 (.tmp 6) rfl g1 rfl 26 (bs q) r1 224 5 Try.underlying26 size26 hqb ?_; have tk8 : Hid (2 = 2) := rfl)
                    | (have hh := tk8; clear hh tk8; go_at_call 11; refine (HTQ.out _).mono ?_; clear HTQ; rintro e w7 ⟨rfl, hx⟩; have r0 := r0.below hx r0.lt; have r1 := r1.below hx r1.lt; have r2 := r2.below hx r2.lt; have r3 := r3.below hx r3.lt; have HOL := HOL.keep hx; have ab := ab.trans (hx.mono ab.size); clear hx; have tk9 : Hid (2 = 2) := rfl)
                    | (have hh := tk9; clear hh tk9; refine load_row_g rfl 26 (.tmp 6) rfl g1 rfl 26 (bs q) r1 224 5 Try.underlying26 size26 hqb ?_; have tk10 : Hid (2 = 2) := rfl)
                    | (have hh := tk10; clear hh tk10; go_at_call 12; refine (HLQ.out _).mono ?_; clear HLQ; rintro e wz ⟨rfl, hx⟩; have r0 := r0.below hx r0.lt; have r1 := r1.below hx r1.lt; have r2 := r2.below hx r2.lt; have r3 := r3.below hx r3.lt; have HOL := HOL.keep hx; have ab := ab.trans (hx.mono ab.size); clear hx; have tk11 : Hid (2 = 2) := rfl))
                have tk0 : Hid (2 = 2) := rfl
                go_upto_region 11 with (first
                    | (have hh := tk0; clear hh tk0; refine load_cells rfl 24 (.tmp 8) rfl g3 rfl 24 #[.bool u, .int .u16 no] r3 2 Try.underlying24 rfl size24 rfl ?_; have tk1 : Hid (2 = 2) := rfl)
                    | (have hh := tk1; clear hh tk1; refine load_row rfl 26 (.tmp 5) rfl s0 rfl 26 (bs p) r0 224 5 Try.underlying26 size26 hpb ?_; have tk2 : Hid (2 = 2) := rfl)
                    | (have hh := tk2; clear hh tk2; go_at_call 8; refine (HR1.out _ (HOL.own.log HIM.out)).mono ?_; clear HR1; rintro e w8 ⟨rfl, hx⟩; have r0 := r0.below hx r0.lt; have r1 := r1.below hx r1.lt; have r3 := r3.below hx r3.lt; have HOL := HOL.keep hx; have ab := ab.trans (hx.mono ab.size); clear hx; have q2 : Row (w8.alloc (.cells (bs (zs 224)) 26)) w8.heap.size (bs (zs 224)) 26 := Row.new _ _ _; have tk3 : Hid (2 = 2) := rfl)
                    | (have hh := tk3; clear hh tk3; refine store_row rfl 26 (.tmp 14) (.tmp 64) rfl w8.heap.size P1 rfl rfl 26 _ q2 224 size26 (by rw [bs_size, zs_length]) hP1.1 ?_; have tk4 : Hid (2 = 2) := rfl))
                have l1 := r1.lt
                have l3 := r3.lt
                have HOL := HOL.keep (below_setRow ((Below.refl _ _).alloc (Nat.le_refl _) (.cells (bs (zs 224)) 26)) (Nat.le_refl _) (bs P1))
                have r1 := (r1.alloc (.cells (bs (zs 224)) 26)).other (g := w8.heap.size) (by omega) (bs P1)
                have r3 := (r3.alloc (.cells (bs (zs 224)) 26)).other (g := w8.heap.size) (by omega) (bs P1)
                have q2 := q2.set (bs P1)
                have ab := below_setRow (ab.alloc ab.size (.cells (bs (zs 224)) 26)) ab.size (bs P1)
                clear r0 r2
                generalize (w8.alloc (.cells (bs (zs 224)) 26)).setRow w8.heap.size (bs P1) = w9 at r1 r3 q2 ab HOL ⊢
                generalize w8.heap.size = g9 at q2 l1 l3 ⊢
                refine wp_region_held_drew (S := fun w' => Row w' g3 #[.bool u, .int .u16 no] 24 ∧ Row w' g9 (bs P1) 26 ∧ Row w' g1 (bs q) 26 ∧ Below w9.heap.size w9 w') (by kernel_rfl) ⟨r3, q2, r1, (Below.refl _ _).drew⟩ fun hS => ?_
                refine wpAnyH_take (i := 0) (v := .agg (bs P1)) rfl (by kernel_rfl) (by kernel_rfl) (by kernel_rfl) (fun _ _ _ h => h) (yields_row (by rfl) 26 (.tmp 14) rfl g9 rfl 26 (bs P1) (fun w h => h.2.1) 224 5 Try.underlying26 size26 hP1b) hS ?_
                try simp only [Act.put, List.getElem_toArray, List.getElem_cons_zero, List.getElem_cons_succ, List.setIfInBounds_toArray, List.set_cons_zero, List.set_cons_succ]
                refine wpAnyH_take (i := 1) (v := .agg #[.bool u, .int .u16 no]) rfl (by kernel_rfl) (by kernel_rfl) (by kernel_rfl) (fun _ _ _ h => h) (yields_cells (by rfl) 24 (.tmp 8) rfl g3 rfl 24 #[.bool u, .int .u16 no] (fun w h => h.1) 2 Try.underlying24 rfl size24 rfl) hS ?_
                try simp only [Act.put, List.getElem_toArray, List.getElem_cons_zero, List.getElem_cons_succ, List.setIfInBounds_toArray, List.set_cons_zero, List.set_cons_succ]
                refine wpAnyH_take (i := 2) (v := .agg (bs q)) rfl (by kernel_rfl) (by kernel_rfl) (by kernel_rfl) (fun _ _ _ h => h) (yields_row (by rfl) 26 (.tmp 6) rfl g1 rfl 26 (bs q) (fun w h => h.2.2.1) 224 5 Try.underlying26 size26 hqb) hS ?_
                try simp only [Act.put, List.getElem_toArray, List.getElem_cons_zero, List.getElem_cons_succ, List.setIfInBounds_toArray, List.set_cons_zero, List.set_cons_succ]
                refine wpAnyH_take (i := 3) (v := lg) rfl (by kernel_rfl) (by kernel_rfl) (by kernel_rfl) (fun _ _ _ h => h) (Or.inl ⟨by rfl, fun w _ => by go_simp⟩) hS ?_
                try simp only [Act.put, List.getElem_toArray, List.getElem_cons_zero, List.getElem_cons_succ, List.setIfInBounds_toArray, List.set_cons_zero, List.set_cons_succ]
                refine wpAnyH_ready (rs := [4]) (by kernel_rfl) (by simp) ?_
                refine AllReadyH.cons rfl (fun K hK => ?_) AllReadyH.nil
                go_simp
                go_at_call 8
                refine Calls.mono (HR2.out _ ((HOL.keep hS.2.2.2).own.log HIM.out)) ?_
                rintro e wc ⟨rfl, hcb⟩
                refine hK.out _ _ (⟨hS.1.below hcb hS.1.lt, hS.2.1.below hcb hS.2.1.lt, hS.2.2.1.below hcb hS.2.2.1.lt, hS.2.2.2.trans (hcb.mono hS.2.2.2.size)⟩) fun hS => ?_
                try simp only [Act.put, List.getElem_toArray, List.getElem_cons_zero, List.getElem_cons_succ, List.setIfInBounds_toArray, List.set_cons_zero, List.set_cons_succ]
                clear hcb
                refine wpAnyH_take (i := 5) (v := .bool true) rfl (by kernel_rfl) (by kernel_rfl) (by kernel_rfl) (fun _ _ _ h => h) (yields_eq (by rfl) 26 26 (.tmp 65) (.tmp 69) rfl (bs P1) (bs P1) rfl rfl Try.eqGuardType26 true heq) hS ?_
                try simp only [Act.put, List.getElem_toArray, List.getElem_cons_zero, List.getElem_cons_succ, List.setIfInBounds_toArray, List.set_cons_zero, List.set_cons_succ]
                refine wpAnyH_take (i := 6) (v := .bool true) rfl (by kernel_rfl) (by kernel_rfl) (by kernel_rfl) (fun _ _ _ h => h) (Or.inl ⟨by rfl, fun w _ => by go_simp⟩) hS ?_
                try simp only [Act.put, List.getElem_toArray, List.getElem_cons_zero, List.getElem_cons_succ, List.setIfInBounds_toArray, List.set_cons_zero, List.set_cons_succ]
                refine wpAnyH_take (i := 7) (v := .agg #[.bool u, .int .u16 no]) rfl (by kernel_rfl) (by kernel_rfl) (by kernel_rfl) (fun _ _ _ h => h) (yields_cells (by rfl) 24 (.tmp 8) rfl g3 rfl 24 #[.bool u, .int .u16 no] (fun w h => h.1) 2 Try.underlying24 rfl size24 rfl) hS ?_
                try simp only [Act.put, List.getElem_toArray, List.getElem_cons_zero, List.getElem_cons_succ, List.setIfInBounds_toArray, List.set_cons_zero, List.set_cons_succ]
                refine wpAnyH_take (i := 8) (v := .agg (bs P1)) rfl (by kernel_rfl) (by kernel_rfl) (by kernel_rfl) (fun _ _ _ h => h) (yields_row (by rfl) 26 (.tmp 14) rfl g9 rfl 26 (bs P1) (fun w h => h.2.1) 224 5 Try.underlying26 size26 hP1b) hS ?_
                try simp only [Act.put, List.getElem_toArray, List.getElem_cons_zero, List.getElem_cons_succ, List.setIfInBounds_toArray, List.set_cons_zero, List.set_cons_succ]
                refine wpAnyH_ready (rs := [9]) (by kernel_rfl) (by simp) ?_
                refine AllReadyH.cons rfl (fun K hK => ?_) AllReadyH.nil
                go_simp
                go_at_call 11
                refine Calls.mono (HRT.out _) ?_
                rintro e w2_9 ⟨rfl, hcb⟩
                refine hK.out _ _ (⟨hS.1.below hcb hS.1.lt, hS.2.1.below hcb hS.2.1.lt, hS.2.2.1.below hcb hS.2.2.1.lt, hS.2.2.2.trans (hcb.mono hS.2.2.2.size)⟩) fun hS => ?_
                try simp only [Act.put, List.getElem_toArray, List.getElem_cons_zero, List.getElem_cons_succ, List.setIfInBounds_toArray, List.set_cons_zero, List.set_cons_succ]
                clear hcb
                refine wpAnyH_take (i := 10) (v := .bool true) rfl (by kernel_rfl) (by kernel_rfl) (by kernel_rfl) (fun _ _ _ h => h) (Or.inl ⟨by rfl, fun w _ => by go_simp⟩) hS ?_
                try simp only [Act.put, List.getElem_toArray, List.getElem_cons_zero, List.getElem_cons_succ, List.setIfInBounds_toArray, List.set_cons_zero, List.set_cons_succ]
                refine wpAnyH_take (i := 11) (v := .bool true) rfl (by kernel_rfl) (by kernel_rfl) (by kernel_rfl) (fun _ _ _ h => h) (Or.inl ⟨by rfl, fun w _ => by go_simp⟩) hS ?_
                try simp only [Act.put, List.getElem_toArray, List.getElem_cons_zero, List.getElem_cons_succ, List.setIfInBounds_toArray, List.set_cons_zero, List.set_cons_succ]
                refine wpAnyH_ready (rs := [12]) (by kernel_rfl) (by simp) ?_
                refine AllReadyH.cons rfl (fun K hK => ?_) AllReadyH.nil
                go_simp
                go_at_call 7
                refine Calls.mono (HAW.out _) ?_
                rintro e w3_12 ⟨rfl, hcb⟩
                refine hK.out _ _ (⟨hS.1.below hcb hS.1.lt, hS.2.1.below hcb hS.2.1.lt, hS.2.2.1.below hcb hS.2.2.1.lt, hS.2.2.2.trans (hcb.mono hS.2.2.2.size)⟩) fun hS => ?_
                try simp only [Act.put, List.getElem_toArray, List.getElem_cons_zero, List.getElem_cons_succ, List.setIfInBounds_toArray, List.set_cons_zero, List.set_cons_succ]
                clear hcb
                refine wpAnyH_take (i := 13) (v := .bool true) rfl (by kernel_rfl) (by kernel_rfl) (by kernel_rfl) (fun _ _ _ h => h) (Or.inl ⟨by rfl, fun w _ => by go_simp⟩) hS ?_
                try simp only [Act.put, List.getElem_toArray, List.getElem_cons_zero, List.getElem_cons_succ, List.setIfInBounds_toArray, List.set_cons_zero, List.set_cons_succ]
                refine wpAnyH_take (i := 14) (v := .bool true) rfl (by kernel_rfl) (by kernel_rfl) (by kernel_rfl) (fun _ _ _ h => h) (Or.inl ⟨by rfl, fun w _ => by go_simp⟩) hS ?_
                try simp only [Act.put, List.getElem_toArray, List.getElem_cons_zero, List.getElem_cons_succ, List.setIfInBounds_toArray, List.set_cons_zero, List.set_cons_succ]
                refine wpAnyH_done (by kernel_rfl) ?_ _
                go_wp2
                go_ret
                exact ⟨rfl, ab.trans (hS.2.2.2.mono ab.size)⟩)
          · have c3 : isP u no q = false := by simpa using c3
            have hqo : isP u no q = true → lsnOf q ≤ 0 := fun h => by rw [c3] at h; cases h
            rw [c3] at HTQ
            as_aux_lemma => (
              have hsame : replayR u no q (E :: l.map bump) = replayR u no p (E :: l.map bump) := by rw [← HE.out]; exact torn_same u no img q p _ 1 (by decide) c1 hqo hpo
              have hright : isP u no (replayR u no p (E :: l.map bump)) = true := by rw [← HE.out]; exact torn_right u no img p _ 1 (by decide) c1 hpo hno hp hbp (by rw [HE.out]; exact HFL.out)
              have HR1 : Hid _ := fun (w : World) (h : Log w lg (E :: l.map bump)) => HRE.out w lg p h hp hbp
              have HR2 : Hid _ := fun (w : World) (h : Log w lg (E :: l.map bump)) => HRE.out w lg q h hq hbq
              rw [hsame] at HR2
              have hP1 := replayR_ok u no p (E :: l.map bump) HFL.out hp hbp
              have HRT : Hid _ := fun w => right_any u no (replayR u no p (E :: l.map bump)) w hno hP1.1 hP1.2
              rw [hright] at HRT
              clear hsame hright HRE
              generalize replayR u no p (E :: l.map bump) = P1 at HR1 HR2 HRT hP1
              have hP1b : (bs P1).size = 224 := by rw [bs_size, hP1.1]
              have heq := equal26 P1 P1 hP1.1 hP1.1
              simp only [decide_true] at heq
              obtain ⟨LL, HLL2⟩ : ∃ LL, Hid ((E :: l.map bump) = LL) := ⟨_, rfl⟩
              rw [HLL2.out] at HOL HR1 HR2
              have HIM : Hid (∀ x ∈ LL, x.r.img.length = 224) := fun x hx => (HFL.out x (by rw [HLL2.out]; exact hx)).r.len
              have tk0 : Hid (2 = 2) := rfl
              go_upto_region 10 with (first
                  | (have hh := tk0; clear hh tk0; refine load_cells rfl 24 (.tmp 8) rfl g3 rfl 24 #[.bool u, .int .u16 no] r3 2 Try.underlying24 rfl size24 rfl ?_; have tk1 : Hid (2 = 2) := rfl)
                  | (have hh := tk1; clear hh tk1; refine load_row rfl 26 (.tmp 7) rfl g2 rfl 26 (bs img) r2 224 5 Try.underlying26 size26 hib ?_; have tk2 : Hid (2 = 2) := rfl)
                  | (have hh := tk2; clear hh tk2; go_at_call 11; refine (HTI.out _).mono ?_; clear HTI; rintro e w4 ⟨rfl, hx⟩; have r0 := r0.below hx r0.lt; have r1 := r1.below hx r1.lt; have r2 := r2.below hx r2.lt; have r3 := r3.below hx r3.lt; have HOL := HOL.keep hx; have ab := ab.trans (hx.mono ab.size); clear hx; have tk3 : Hid (2 = 2) := rfl)
                  | (have hh := tk3; clear hh tk3; refine load_cells_g rfl 24 (.tmp 8) rfl g3 rfl 24 #[.bool u, .int .u16 no] r3 2 Try.underlying24 rfl size24 rfl ?_; have tk4 : Hid (2 = 2) := rfl)
                  | (have hh := tk4; clear hh tk4; refine load_row_g rfl 26 (.tmp 5) rfl s0 rfl 26 (bs p) r0 224 5 Try.underlying26 size26 hpb ?_; have tk5 : Hid (2 = 2) := rfl)
                  | (have hh := tk5; clear hh tk5; go_at_call 11; refine (HTP.out _).mono ?_; clear HTP; rintro e w5 ⟨rfl, hx⟩; have r0 := r0.below hx r0.lt; have r1 := r1.below hx r1.lt; have r2 := r2.below hx r2.lt; have r3 := r3.below hx r3.lt; have HOL := HOL.keep hx; have ab := ab.trans (hx.mono ab.size); clear hx; have tk6 : Hid (2 = 2) := rfl)
                  | (have hh := tk6; clear hh tk6; refine load_cells_g rfl 24 (.tmp 8) rfl g3 rfl 24 #[.bool u, .int .u16 no] r3 2 Try.underlying24 rfl size24 rfl ?_; have tk7 : Hid (2 = 2) := rfl)
                  | (have hh := tk7; clear hh tk7; refine load_row_g rfl 26 (.tmp 6) rfl g1 rfl 26 (bs q) r1 224 5 Try.underlying26 size26 hqb ?_; have tk8 : Hid (2 = 2) := rfl)
                  | (have hh := tk8; clear hh tk8; go_at_call 11; refine (HTQ.out _).mono ?_; clear HTQ; rintro e w7 ⟨rfl, hx⟩; have r0 := r0.below hx r0.lt; have r1 := r1.below hx r1.lt; have r2 := r2.below hx r2.lt; have r3 := r3.below hx r3.lt; have HOL := HOL.keep hx; have ab := ab.trans (hx.mono ab.size); clear hx; have tk9 : Hid (2 = 2) := rfl))
              have tk0 : Hid (2 = 2) := rfl
              go_upto_region 11 with (first
                  | (have hh := tk0; clear hh tk0; refine load_cells rfl 24 (.tmp 8) rfl g3 rfl 24 #[.bool u, .int .u16 no] r3 2 Try.underlying24 rfl size24 rfl ?_; have tk1 : Hid (2 = 2) := rfl)
                  | (have hh := tk1; clear hh tk1; refine load_row rfl 26 (.tmp 5) rfl s0 rfl 26 (bs p) r0 224 5 Try.underlying26 size26 hpb ?_; have tk2 : Hid (2 = 2) := rfl)
                  | (have hh := tk2; clear hh tk2; go_at_call 8; refine (HR1.out _ (HOL.own.log HIM.out)).mono ?_; clear HR1; rintro e w8 ⟨rfl, hx⟩; have r0 := r0.below hx r0.lt; have r1 := r1.below hx r1.lt; have r3 := r3.below hx r3.lt; have HOL := HOL.keep hx; have ab := ab.trans (hx.mono ab.size); clear hx; have q2 : Row (w8.alloc (.cells (bs (zs 224)) 26)) w8.heap.size (bs (zs 224)) 26 := Row.new _ _ _; have tk3 : Hid (2 = 2) := rfl)
                  | (have hh := tk3; clear hh tk3; refine store_row rfl 26 (.tmp 14) (.tmp 64) rfl w8.heap.size P1 rfl rfl 26 _ q2 224 size26 (by rw [bs_size, zs_length]) hP1.1 ?_; have tk4 : Hid (2 = 2) := rfl))
              have l1 := r1.lt
              have l3 := r3.lt
              have HOL := HOL.keep (below_setRow ((Below.refl _ _).alloc (Nat.le_refl _) (.cells (bs (zs 224)) 26)) (Nat.le_refl _) (bs P1))
              have r1 := (r1.alloc (.cells (bs (zs 224)) 26)).other (g := w8.heap.size) (by omega) (bs P1)
              have r3 := (r3.alloc (.cells (bs (zs 224)) 26)).other (g := w8.heap.size) (by omega) (bs P1)
              have q2 := q2.set (bs P1)
              have ab := below_setRow (ab.alloc ab.size (.cells (bs (zs 224)) 26)) ab.size (bs P1)
              clear r0 r2
              generalize (w8.alloc (.cells (bs (zs 224)) 26)).setRow w8.heap.size (bs P1) = w9 at r1 r3 q2 ab HOL ⊢
              generalize w8.heap.size = g9 at q2 l1 l3 ⊢
              refine wp_region_held_drew (S := fun w' => Row w' g3 #[.bool u, .int .u16 no] 24 ∧ Row w' g9 (bs P1) 26 ∧ Row w' g1 (bs q) 26 ∧ Below w9.heap.size w9 w') (by kernel_rfl) ⟨r3, q2, r1, (Below.refl _ _).drew⟩ fun hS => ?_
              refine wpAnyH_take (i := 0) (v := .agg (bs P1)) rfl (by kernel_rfl) (by kernel_rfl) (by kernel_rfl) (fun _ _ _ h => h) (yields_row (by rfl) 26 (.tmp 14) rfl g9 rfl 26 (bs P1) (fun w h => h.2.1) 224 5 Try.underlying26 size26 hP1b) hS ?_
              try simp only [Act.put, List.getElem_toArray, List.getElem_cons_zero, List.getElem_cons_succ, List.setIfInBounds_toArray, List.set_cons_zero, List.set_cons_succ]
              refine wpAnyH_take (i := 1) (v := .agg #[.bool u, .int .u16 no]) rfl (by kernel_rfl) (by kernel_rfl) (by kernel_rfl) (fun _ _ _ h => h) (yields_cells (by rfl) 24 (.tmp 8) rfl g3 rfl 24 #[.bool u, .int .u16 no] (fun w h => h.1) 2 Try.underlying24 rfl size24 rfl) hS ?_
              try simp only [Act.put, List.getElem_toArray, List.getElem_cons_zero, List.getElem_cons_succ, List.setIfInBounds_toArray, List.set_cons_zero, List.set_cons_succ]
              refine wpAnyH_take (i := 2) (v := .agg (bs q)) rfl (by kernel_rfl) (by kernel_rfl) (by kernel_rfl) (fun _ _ _ h => h) (yields_row (by rfl) 26 (.tmp 6) rfl g1 rfl 26 (bs q) (fun w h => h.2.2.1) 224 5 Try.underlying26 size26 hqb) hS ?_
              try simp only [Act.put, List.getElem_toArray, List.getElem_cons_zero, List.getElem_cons_succ, List.setIfInBounds_toArray, List.set_cons_zero, List.set_cons_succ]
              refine wpAnyH_take (i := 3) (v := lg) rfl (by kernel_rfl) (by kernel_rfl) (by kernel_rfl) (fun _ _ _ h => h) (Or.inl ⟨by rfl, fun w _ => by go_simp⟩) hS ?_
              try simp only [Act.put, List.getElem_toArray, List.getElem_cons_zero, List.getElem_cons_succ, List.setIfInBounds_toArray, List.set_cons_zero, List.set_cons_succ]
              refine wpAnyH_ready (rs := [4]) (by kernel_rfl) (by simp) ?_
              refine AllReadyH.cons rfl (fun K hK => ?_) AllReadyH.nil
              go_simp
              go_at_call 8
              refine Calls.mono (HR2.out _ ((HOL.keep hS.2.2.2).own.log HIM.out)) ?_
              rintro e wc ⟨rfl, hcb⟩
              refine hK.out _ _ (⟨hS.1.below hcb hS.1.lt, hS.2.1.below hcb hS.2.1.lt, hS.2.2.1.below hcb hS.2.2.1.lt, hS.2.2.2.trans (hcb.mono hS.2.2.2.size)⟩) fun hS => ?_
              try simp only [Act.put, List.getElem_toArray, List.getElem_cons_zero, List.getElem_cons_succ, List.setIfInBounds_toArray, List.set_cons_zero, List.set_cons_succ]
              clear hcb
              refine wpAnyH_take (i := 5) (v := .bool true) rfl (by kernel_rfl) (by kernel_rfl) (by kernel_rfl) (fun _ _ _ h => h) (yields_eq (by rfl) 26 26 (.tmp 65) (.tmp 69) rfl (bs P1) (bs P1) rfl rfl Try.eqGuardType26 true heq) hS ?_
              try simp only [Act.put, List.getElem_toArray, List.getElem_cons_zero, List.getElem_cons_succ, List.setIfInBounds_toArray, List.set_cons_zero, List.set_cons_succ]
              refine wpAnyH_take (i := 6) (v := .bool true) rfl (by kernel_rfl) (by kernel_rfl) (by kernel_rfl) (fun _ _ _ h => h) (Or.inl ⟨by rfl, fun w _ => by go_simp⟩) hS ?_
              try simp only [Act.put, List.getElem_toArray, List.getElem_cons_zero, List.getElem_cons_succ, List.setIfInBounds_toArray, List.set_cons_zero, List.set_cons_succ]
              refine wpAnyH_take (i := 7) (v := .agg #[.bool u, .int .u16 no]) rfl (by kernel_rfl) (by kernel_rfl) (by kernel_rfl) (fun _ _ _ h => h) (yields_cells (by rfl) 24 (.tmp 8) rfl g3 rfl 24 #[.bool u, .int .u16 no] (fun w h => h.1) 2 Try.underlying24 rfl size24 rfl) hS ?_
              try simp only [Act.put, List.getElem_toArray, List.getElem_cons_zero, List.getElem_cons_succ, List.setIfInBounds_toArray, List.set_cons_zero, List.set_cons_succ]
              refine wpAnyH_take (i := 8) (v := .agg (bs P1)) rfl (by kernel_rfl) (by kernel_rfl) (by kernel_rfl) (fun _ _ _ h => h) (yields_row (by rfl) 26 (.tmp 14) rfl g9 rfl 26 (bs P1) (fun w h => h.2.1) 224 5 Try.underlying26 size26 hP1b) hS ?_
              try simp only [Act.put, List.getElem_toArray, List.getElem_cons_zero, List.getElem_cons_succ, List.setIfInBounds_toArray, List.set_cons_zero, List.set_cons_succ]
              refine wpAnyH_ready (rs := [9]) (by kernel_rfl) (by simp) ?_
              refine AllReadyH.cons rfl (fun K hK => ?_) AllReadyH.nil
              go_simp
              go_at_call 11
              refine Calls.mono (HRT.out _) ?_
              rintro e w2_9 ⟨rfl, hcb⟩
              refine hK.out _ _ (⟨hS.1.below hcb hS.1.lt, hS.2.1.below hcb hS.2.1.lt, hS.2.2.1.below hcb hS.2.2.1.lt, hS.2.2.2.trans (hcb.mono hS.2.2.2.size)⟩) fun hS => ?_
              try simp only [Act.put, List.getElem_toArray, List.getElem_cons_zero, List.getElem_cons_succ, List.setIfInBounds_toArray, List.set_cons_zero, List.set_cons_succ]
              clear hcb
              refine wpAnyH_take (i := 10) (v := .bool true) rfl (by kernel_rfl) (by kernel_rfl) (by kernel_rfl) (fun _ _ _ h => h) (Or.inl ⟨by rfl, fun w _ => by go_simp⟩) hS ?_
              try simp only [Act.put, List.getElem_toArray, List.getElem_cons_zero, List.getElem_cons_succ, List.setIfInBounds_toArray, List.set_cons_zero, List.set_cons_succ]
              refine wpAnyH_take (i := 11) (v := .bool true) rfl (by kernel_rfl) (by kernel_rfl) (by kernel_rfl) (fun _ _ _ h => h) (Or.inl ⟨by rfl, fun w _ => by go_simp⟩) hS ?_
              try simp only [Act.put, List.getElem_toArray, List.getElem_cons_zero, List.getElem_cons_succ, List.setIfInBounds_toArray, List.set_cons_zero, List.set_cons_succ]
              refine wpAnyH_ready (rs := [12]) (by kernel_rfl) (by simp) ?_
              refine AllReadyH.cons rfl (fun K hK => ?_) AllReadyH.nil
              go_simp
              go_at_call 7
              refine Calls.mono (HAW.out _) ?_
              rintro e w3_12 ⟨rfl, hcb⟩
              refine hK.out _ _ (⟨hS.1.below hcb hS.1.lt, hS.2.1.below hcb hS.2.1.lt, hS.2.2.1.below hcb hS.2.2.1.lt, hS.2.2.2.trans (hcb.mono hS.2.2.2.size)⟩) fun hS => ?_
              try simp only [Act.put, List.getElem_toArray, List.getElem_cons_zero, List.getElem_cons_succ, List.setIfInBounds_toArray, List.set_cons_zero, List.set_cons_succ]
              clear hcb
              refine wpAnyH_take (i := 13) (v := .bool true) rfl (by kernel_rfl) (by kernel_rfl) (by kernel_rfl) (fun _ _ _ h => h) (Or.inl ⟨by rfl, fun w _ => by go_simp⟩) hS ?_
              try simp only [Act.put, List.getElem_toArray, List.getElem_cons_zero, List.getElem_cons_succ, List.setIfInBounds_toArray, List.set_cons_zero, List.set_cons_succ]
              refine wpAnyH_take (i := 14) (v := .bool true) rfl (by kernel_rfl) (by kernel_rfl) (by kernel_rfl) (fun _ _ _ h => h) (Or.inl ⟨by rfl, fun w _ => by go_simp⟩) hS ?_
              try simp only [Act.put, List.getElem_toArray, List.getElem_cons_zero, List.getElem_cons_succ, List.setIfInBounds_toArray, List.set_cons_zero, List.set_cons_succ]
              refine wpAnyH_done (by kernel_rfl) ?_ _
              go_wp2
              go_ret
              exact ⟨rfl, ab.trans (hS.2.2.2.mono ab.size)⟩)
      · have c1 : isP u no img = false := by simpa using c1
        rw [c1] at HTI
        as_aux_lemma => (
          have tk0 : Hid (2 = 2) := rfl
          go_wp2_with (first
              | (have hh := tk0; clear hh tk0; refine load_cells rfl 24 (.tmp 8) rfl g3 rfl 24 #[.bool u, .int .u16 no] r3 2 Try.underlying24 rfl size24 rfl ?_; have tk1 : Hid (2 = 2) := rfl)
              | (have hh := tk1; clear hh tk1; refine load_row rfl 26 (.tmp 7) rfl g2 rfl 26 (bs img) r2 224 5 Try.underlying26 size26 hib ?_; have tk2 : Hid (2 = 2) := rfl)
              | (have hh := tk2; clear hh tk2; go_at_call 11; refine (HTI.out _).mono ?_; clear HTI; rintro e w4 ⟨rfl, hx⟩; have r0 := r0.below hx r0.lt; have r1 := r1.below hx r1.lt; have r2 := r2.below hx r2.lt; have r3 := r3.below hx r3.lt; have HOL := HOL.keep hx; have ab := ab.trans (hx.mono ab.size); clear hx; have tk3 : Hid (2 = 2) := rfl)
              | (have hh := tk3; clear hh tk3; go_at_call 7; refine (HAW.out _).mono ?_; rintro e w9 ⟨rfl, hx⟩; have ab := ab.trans (hx.mono ab.size); have tk4 : Hid (2 = 2) := rfl))
          go_ret
          exact ⟨rfl, ab⟩)

set_option maxRecDepth 100000 in
theorem lifted (os : Os) (started : os.Started) (H : Type) (enc : TypeId × Value → H) :
    ReturnsInHanded {} Try.checked os 5 .any (Rows.applyTornSpec.pre6 enc Try.prog Try.f5 Rows.applyTornRow.domain false) (Rows.applyTornSpec.post enc Try.prog Try.f5 false true false false) := by
  refine returnsInHanded_of_change_sized (C := Try.checked) own started (by kernel_rfl) Try.func5
    (ChangeSpec.witness6 (enc := enc) (C := Try.checked) false ⟨#[], #[.agg (bs (zs 224)), .agg (bs (zs 224)), .agg (bs (zs 224)), .agg #[.bool false, .int .u16 0], .slice none 0 0], []⟩ 8 (by kernel_rfl) (by kernel_rfl) (by kernel_rfl) (by kernel_rfl)) ?_
  intro W base args ds gs before hval0 hW hcnd hsz0 _
  have hval : ∀ (j : Nat) t v, Try.f5.params[j]? = some t → args[j]? = some v → Value.okWide Try.prog W .any base t v := hval0
  have hW' := hW
  obtain ⟨p, q, hA0, hV, rfl, hfz, hnd⟩ := hW
  have hA : DataW.TrodAll enc Try.prog W 0 (fun _ => true) true Try.f5.params.toList args.toList ds p := hA0
  have hsz : (DataW.weightsEach Try.prog (Try.f5.params.toList ++ []) (ds ++ gs)).all (· ≤ reachBytes) = true := hsz0
  rw [Try.params5] at hA hval hsz
  obtain ⟨v0, vs0, d0, ds0, p0, q0, hargs, rfl, rfl, h0, r0⟩ := trodAll_cons hA
  obtain ⟨v1, vs1, d1, ds1, p1, q1, rfl, rfl, rfl, h1, r1⟩ := trodAll_cons r0
  obtain ⟨v2, vs2, d2, ds2, p2, q2, rfl, rfl, rfl, h2, r2⟩ := trodAll_cons r1
  obtain ⟨v3, vs3, d3, ds3, p3, q3, rfl, rfl, rfl, h3, r3⟩ := trodAll_cons r2
  obtain ⟨v4, vs4, d4, ds4, p4, q4, rfl, rfl, rfl, h4, r4⟩ := trodAll_cons r3
  obtain ⟨rfl, rfl, rfl⟩ := trodAll_nil r4
  obtain rfl : args = #[v0, v1, v2, v3, v4] := by cases args; simp_all
  obtain ⟨rfl, rfl⟩ := trodVars_none hV
  simp only [List.append_nil] at hsz
  have hlt : ∀ x ∈ (p0 ++ (p1 ++ (p2 ++ (p3 ++ (p4 ++ []))))), x.block < W.heap.size := fun x hx => hW'.lt x (by simpa using hx)
  have hw0 : (d0.weights Try.prog 26).all (· ≤ reachBytes) = true := List.all_eq_true.2 fun m hm => List.all_eq_true.1 hsz m (by simp [DataW.weightsEach, hm])
  have hw1 : (d1.weights Try.prog 26).all (· ≤ reachBytes) = true := List.all_eq_true.2 fun m hm => List.all_eq_true.1 hsz m (by simp [DataW.weightsEach, hm])
  have hw2 : (d2.weights Try.prog 26).all (· ≤ reachBytes) = true := List.all_eq_true.2 fun m hm => List.all_eq_true.1 hsz m (by simp [DataW.weightsEach, hm])
  have hw3 : (d3.weights Try.prog 24).all (· ≤ reachBytes) = true := List.all_eq_true.2 fun m hm => List.all_eq_true.1 hsz m (by simp [DataW.weightsEach, hm])
  have hw4 : (d4.weights Try.prog 27).all (· ≤ reachBytes) = true := List.all_eq_true.2 fun m hm => List.all_eq_true.1 hsz m (by simp [DataW.weightsEach, hm])
  have k0 := h0
  have k1 := h1
  have k2 := h2
  have k3 := h3
  have k4 := h4
  obtain ⟨a0, rfl, l0, w0⟩ := open_payv (hval 0 26 v0 rfl rfl) h0
  obtain ⟨a1, rfl, l1, w1⟩ := open_payv (hval 1 26 v1 rfl rfl) h1
  obtain ⟨a2, rfl, l2, w2⟩ := open_payv (hval 2 26 v2 rfl rfl) h2
  obtain ⟨a3, c3, rfl, w3⟩ := open_pidv (hval 3 24 v3 rfl rfl) h3
  obtain ⟨a4, w4⟩ := open_log (hval 4 27 v4 rfl rfl) h4 hw4
  clear hA0 hval0
  simp only [List.append_nil] at hW'
  refine (walk W a0 a1 a2 a3 c3 v4 a4 l0 w0 l1 w1 l2 w2 w3 w4).mono fun e W' ⟨he, hg⟩ => ?_
  subst he
  exact ⟨_, rfl, ⟨_, _, _, [], (p0 ++ (p1 ++ (p2 ++ (p3 ++ (p4 ++ []))))), [], hW', (trodAll_cons_mk (shut_bool Try.underlying4 _) trodAll_mk0), (trodAll_cons_mk (Below.trod laidOut (by kernel_rfl) (of_decide_eq_true (by kernel_rfl)) k0 hg (fun x hx => hlt x (by simp [hx]))) (trodAll_cons_mk (Below.trod laidOut (by kernel_rfl) (of_decide_eq_true (by kernel_rfl)) k1 hg (fun x hx => hlt x (by simp [hx]))) (trodAll_cons_mk (Below.trod laidOut (by kernel_rfl) (of_decide_eq_true (by kernel_rfl)) k2 hg (fun x hx => hlt x (by simp [hx]))) (trodAll_cons_mk (Below.trod laidOut (by kernel_rfl) (of_decide_eq_true (by kernel_rfl)) k3 hg (fun x hx => hlt x (by simp [hx]))) (trodAll_cons_mk (Below.trod laidOut (by kernel_rfl) (of_decide_eq_true (by kernel_rfl)) k4 hg (fun x hx => hlt x (by simp [hx]))) trodAll_mk0))))), rfl,
    hg.frame _, fun h => by cases h⟩⟩

theorem over : Rows.applyTornRow.holds Try.pinned (OpenSpec.ofChange Rows.applyTornSpec) :=
  OpenClaim.holds_of_wide 5 Try.f5 rfl rfl rfl rfl rfl rfl rfl ⟨rfl, rfl, rfl, rfl, rfl⟩ rfl rfl rfl rfl rfl (by kernel_rfl) Try.func5 (by kernel_rfl)
    (of_decide_eq_true (by kernel_rfl)) (by unfold Func.isWrapper; first | (rw [if_pos (by decide +kernel)]; kernel_rfl) | (rw [if_neg (by decide +kernel)]; exact ⟨rfl, rfl⟩))
    (fun os started H enc _ => lifted os started H enc)

/-- The statement. -/
theorem proved : Rows.ApplyTornSaid :=
  over
#print axioms proved
end Go.Proofs.Ytihjapfgllokgab.applyTorn
