/-
  Proved here: missed. Plain facts: counting those ahead, taking away one by one who has nobody ahead.
-/
import Derived.Test.YtdlllnkcjfpajaaJq13
namespace Go.Proofs.Ytdlllnkcjfpajaa
open Go.ChangeShapes Go.WideShapes Go.ChangeAt Go.RowKit
set_option linter.unusedVariables false
set_option linter.unusedSimpArgs false
set_option maxRecDepth 20000
def MisI (hs : List Hm) : Prop := ∃ i j : Nat, PasI hs ((i : Int), (j : Int)) ∧ Come (Edge hs) i j
set_option maxHeartbeats 8000000 in
theorem missed_any {w : World} {g mw mc md mp : Nat} {lv : Value} {hs : List Hm} {f : Int × Int → Option Value} {nw nc : Nat} {F : Int → Option Value} {G : Int → List Int} (h : HAt w g mw mc md mp lv hs f nw nc F G) {nd np : Nat} (hd : SMp w md nd (DepI hs)) (hp : SMp w mp np (PasI hs)) (hnp : np ≤ 100000000) :
    Calls Try.prog 24 #[.pointer (some ⟨g, 0, none⟩)] w fun e w' => Says w (MisI hs) e w' := by
  have hmm := @run_makeMap Try.prog
  have HYES : Hid (MisI hs → ∀ w', Below w.heap.size w w' → Says w (MisI hs) (.returned (.bool true)) w') := fun q w' hb => ⟨true, rfl, ⟨fun _ => q, fun _ => rfl⟩, hb⟩
  have HNOT : Hid (¬ MisI hs → ∀ w', Below w.heap.size w w' → Says w (MisI hs) (.returned (.bool false)) w') := fun q w' hb => ⟨false, rfl, ⟨(fun q => by cases q), fun q' => absurd q' q⟩, hb⟩
  generalize Says w (MisI hs) = PP at HYES HNOT ⊢
  obtain ⟨n2, HN2⟩ : ∃ n2, Hid (hs.length = n2) := ⟨_, rfl⟩
  have H122 : n2 ≤ 12 := by rw [← HN2.out]; exact h.few
  have HH0 : Hid (HAt w g mw mc md mp lv hs f nw nc F G) := h
  have HD0 : Hid (SMp w md nd (DepI hs)) := hd
  have M0 := GI.GAt.made w
  have HPL : Hid (mp < w.heap.size) := by obtain ⟨q, q1, _⟩ := hp; exact q1.lt
  have b1 : Below w.heap.size w (w.alloc (.map #[] 0)) := (Below.refl _ _).alloc (Nat.le_refl _) _
  have h1 := h.below b1
  obtain ⟨fp, hp1, hp2⟩ := hp.below b1
  have HP2 : Hid (∀ s, (PasI hs s → fp s = some (.agg #[])) ∧ (¬ PasI hs s → fp s = none)) := hp2
  have HB1 : Hid (Below w.heap.size w (w.alloc (.map #[] 0))) := b1
  clear h hd hp
  go_enter Try.func24, Try.ntmps24
  go_upto_region 2 with fail
  clear hmm
  generalize hm : w.heap.size = m at M0 HB1
  generalize w.alloc (.map #[] 0) = w1 at M0 h1 hp1 HB1 ⊢
  have HWM : Hid (w.heap.size = m) := hm
  clear b1 hp2
  clear hm
  have c4 : w1.cell? ⟨g, 4, none⟩ = some (.map (some mp)) := row_at h1.row 4 _ rfl
  obtain ⟨w0, cnt0, hrun0, R0, hcn0, gi, si⟩ := KMap.range Try.underlying94 hp1
  have Oi : Off (fun _ => False) w1 w0 := Off.of_grown gi (fun k hk => by cases hk)
  have G0 := M0.off Oi (fun q => q) (fun _ _ _ q => q)
  have B0 : Below w.heap.size w w0 := by rw [HWM.out]; exact below_offN HB1.out Oi (fun _ q => q.elim) (Nat.le_of_eq HWM.out.symm)
  have I0 : ∀ (x b : Int), b ∈ ((fun _ => []) x : List Int) ↔ (PasI hs (x, b) ∧ (fp (x, b)).isSome = false) := fun x b => ⟨fun q => by simp at q, fun ⟨q1, q2⟩ => by rw [(HP2.out _).1 q1] at q2; cases q2⟩
  have N0 : ∀ x : Int, ((fun _ => []) x : List Int).Nodup := fun _ => List.nodup_nil
  have HRL : Hid (m < w1.heap.size) := by have := M0.1.lt; exact this
  have hcc : 0 + cnt0 ≤ np := by omega
  generalize hr : w1.heap.size = r at R0 hrun0 HRL
  go_upto_region 3 with fail
  clear hrun0 c4 gi si h1 hp1 hr M0 HB1 Oi hcn0
  go_loopw [16] (fun _ wr => ∃ (left : Int × Int → Bool) (cnt n3 : Nat) (F3 : Int → Option Value) (G3 : Int → List Int), KRng E105 wr mp r np fp left cnt ∧ GI.GAt wr (m + 1) m n3 F3 G3 ∧ (∀ (x b : Int), b ∈ G3 x ↔ (PasI hs (x, b) ∧ left (x, b) = false)) ∧ (∀ x, (G3 x).Nodup) ∧ n3 + cnt ≤ np ∧ Below w.heap.size w wr) (fun _ wr => wr.rangeLeft mp r)
  case atStart => exact ⟨_, cnt0, 0, _, _, R0, G0, I0, N0, hcc, B0⟩
  case round =>
    clear R0 I0 G0 N0 B0 hcc
    obtain ⟨left, cnt, n3, F3, G3, Rk, Gk, Ik, Nk, hn3, Bw⟩ := hrel
    have hle := Rk.left_eq
    rcases Rk.next with ⟨c0, hl0, hnx⟩ | ⟨s, vv, w2, cnt', hy, hlf, hfy, hnx, Rk', hlt, gk, sk', hen⟩
    · have hA := HH0.out.below Bw
      have hfol := followers_any hA (HD0.out.below Bw)
      have HFF : Hid (∀ e w', Folls wr hs.length (DepI hs) e w' → ∃ fb us X, e = .returned (.slice (some ⟨fb, 0, none⟩) n2 n2) ∧ us.length = hs.length ∧ FAt w' (fb + 1) fb us X ∧ FolX hs.length (DepI hs) X ∧ Below wr.heap.size wr w') := fun e w' ⟨fb, us, X, q1, q2, q3, q4, q5, _⟩ => ⟨fb, us, X, by rw [q1, HN2.out], q2, q3, q4, q5⟩
      have HIK : Hid (∀ (x b : Int), b ∈ G3 x ↔ PasI hs (x, b)) := fun x b => by
        rw [Ik x b]
        refine ⟨fun q => q.1, fun q => ⟨q, hl0 _ ?_⟩⟩
        obtain ⟨i, j, e, hi, hj⟩ := q.nat
        rw [e]
        have := HN2.out
        exact stepok_of (by omega) (by omega)
      have HGK : Hid (GI.GAt wr (m + 1) m n3 F3 G3) := Gk
      have HNK : Hid (∀ x, (G3 x).Nodup) := Nk
      have HBW : Hid (Below w.heap.size w wr) := Bw
      clear Ik hl0 Gk Nk Bw Rk hle hA
      generalize Folls wr hs.length (DepI hs) = PF at hfol HFF
      go_upto_region 7 with (go_at_call 47; refine hfol.mono ?_; clear hfol; intro e w7 hq; obtain ⟨fb, us, X, he, hus, hF7, hX7, hb7⟩ := HFF.out _ _ hq; obtain rfl := he; clear hq)
      have Gk7 := HGK.out.below hb7
      have HUS : Hid (us.length = hs.length) := hus
      have HF7 : Hid (FAt w7 (fb + 1) fb us X) := hF7
      have HX7 : Hid (FolX hs.length (DepI hs) X) := hX7
      have HB7 : Hid (Below w.heap.size w w7) := below_trans HBW.out hb7
      have HG7 : Hid (GI.GAt w7 (m + 1) m n3 F3 G3) := Gk7
      have HA7 : Hid (HAt w7 g mw mc md mp lv hs f nw nc F G) := HH0.out.below HB7.out
      obtain ⟨w8, cnt8, hrun8, R8, hcn8, g8, s8⟩ := KMap.range Try.underlying109 Gk7.1
      have B8 : Below w7.heap.size w7 w8 := by
        have o := Off.of_grown (F := fun _ => False) g8 (fun k hk => by cases hk)
        exact ⟨o.os, o.tape, o.output, o.size, fun k hk => o.block k hk (fun q => q)⟩
      have I8 : ∀ x, E3.ok x → (F3 x).isSome = true → (F3 x).isSome = false → ¬ ∃ i j : Nat, x = i ∧ (j : Int) ∈ G3 x ∧ Come (Edge hs) i j := fun x _ a b => by rw [a] at b; cases b
      have HR2 : Hid (w7.heap.size ≤ w7.heap.size) := Nat.le_refl _
      clear hus hF7 hX7 hb7 Gk7 HGK HBW g8 s8 hcn8
      generalize hr2 : w7.heap.size = r2 at R8 hrun8
      have HR2 : Hid (w7.heap.size ≤ r2) := Nat.le_of_eq hr2
      clear hr2
      go_upto_region 8 with fail
      clear hrun8
      go_loopw [35] (fun _ wr => ∃ (left : Int → Bool) (cnt : Nat), KRng E3 wr m r2 n3 F3 left cnt ∧ (∀ x, E3.ok x → (F3 x).isSome = true → left x = false → ¬ ∃ i j : Nat, x = i ∧ (j : Int) ∈ G3 x ∧ Come (Edge hs) i j) ∧ Below w7.heap.size w7 wr) (fun _ wr => wr.rangeLeft m r2)
      case atStart => exact ⟨_, cnt8, R8, I8, B8⟩
      case round =>
        clear R8 I8 B8
        rename World => wx
        obtain ⟨left, cnt, Rk, Ik, Bx⟩ := hrel
        have hle := Rk.left_eq
        rcases Rk.next with ⟨c0, hl0, hnx⟩ | ⟨x, u, w9, cnt', hx, hlf, hFx, hnx, Rk', hlt, gk, sk', hen⟩
        · have hfin := HNOT.out (fun ⟨i, j, q1, q2⟩ => by
            have hok : E3.ok (i : Int) := by
              obtain ⟨i', j', e, hi, _⟩ := q1.nat
              have e1 := congrArg Prod.fst e
              simp at e1
              have := HN2.out
              exact WalkArith.wf_i64 (by simp; omega)
            have hmem := (HIK.out (i : Int) (j : Int)).2 q1
            have hsome : (F3 (i : Int)).isSome = true := by
              cases hF : F3 (i : Int) with
              | some _ => rfl
              | none => rw [(HG7.out.2.2.1 _ hok).1 hF] at hmem; simp at hmem
            exact Ik _ hok hsome (hl0 _ hok) ⟨i, j, rfl, hmem, q2⟩) wx (below_trans HB7.out Bx)
          clear Ik hl0 Rk hle Bx
          go_wp2
          exact hfin
        · have hG := ((HG7.out.2.2.1 x hx).2 u hFx)
          obtain ⟨i, rfl, hi⟩ : ∃ i : Nat, x = (i : Int) ∧ i < hs.length := by
            obtain ⟨b, hb⟩ := List.exists_mem_of_ne_nil _ hG.2
            obtain ⟨i', j', e, hi', _⟩ := ((HIK.out x b).1 hb).nat
            exact ⟨i', by have := congrArg Prod.fst e; exact this, hi'⟩
          obtain ⟨oau, capu, hvu, _⟩ := hG.1.hold
          obtain ⟨lu, HLU⟩ : ∃ lu, Hid ((G3 (i : Int)).length = lu) := ⟨_, rfl⟩
          rw [HLU.out] at hvu
          subst hvu
          replace hnx : ∀ ty, (Instr.next (.pointer (some ⟨r2, 0, none⟩)) false ty).run Try.prog wx = .ok (.tuple #[.bool true, .int .i64 (i : Int), .slice oau lu capu]) w9 := hnx
          replace hen : (Instr.entry (.pointer (some ⟨r2, 0, none⟩))).run Try.prog w9 = .ok (.tuple #[.int .i64 (i : Int), .slice oau lu capu]) w9 := hen
          have Ork : Off (· = r2) wx w9 := Off.of_grown gk (fun q hq => by cases hq; rfl)
          have B9 : Below w7.heap.size w7 w9 := below_off Bx Ork (fun k e => by rw [e]; exact HR2.out)
          have hre := reach_any (HA7.out.below B9) HUS.out (HF7.out.below B9) HX7.out i hi
          have HRE : Hid (∀ e w', Reached w9 hs i e w' → ∃ (cb : Nat) (bs : List Bool), e = .returned (.slice (some ⟨cb, 0, none⟩) n2 n2) ∧ Row w' cb (bs.map Value.bool).toArray 4 ∧ bs.length = n2 ∧ (∀ j, j < n2 → (bs[j]? = some true ↔ Come (Edge hs) i j)) ∧ Below w9.heap.size w9 w') := fun e w' ⟨cb, bs, q1, q2, q3, q4, q5, _⟩ => by rw [HN2.out] at q1 q3 q4; exact ⟨cb, bs, q1, q2, q3, q4, q5⟩
          have HGU : Hid (GI.Nums w7 (m + 1) (.slice oau lu capu) (G3 (i : Int))) := hG.1
          have HB9 : Hid (Below w7.heap.size w7 w9) := B9
          have HIX : Hid (∀ x, E3.ok x → (F3 x).isSome = true → left x = false → ¬ ∃ i j : Nat, x = i ∧ (j : Int) ∈ G3 x ∧ Come (Edge hs) i j) := Ik
          have HRK : Hid (KRng E3 w9 m r2 n3 F3 (fun y => left y && !decide (y = (i : Int))) cnt') := Rk'
          clear Ork B9 hG Ik Rk' Rk gk sk' Bx hlf hFx
          rw [HN2.out] at hre
          generalize Reached w9 hs i = PR at hre HRE
          go_upto_region 11 with (go_at_call 49; refine hre.mono ?_; clear hre; intro e w10 hq; obtain ⟨cb, bs, he, q2, q3, q4, q5⟩ := HRE.out _ _ hq; obtain rfl := he; clear hq; have HQ2 : Hid (Row w10 cb (bs.map Value.bool).toArray 4 ∧ bs.length = n2 ∧ (∀ j, j < n2 → (bs[j]? = some true ↔ Come (Edge hs) i j)) ∧ Below w9.heap.size w9 w10) := ⟨q2, q3, q4, q5⟩; clear q2 q3 q4 q5)
          obtain ⟨q2, q3, q4, q5⟩ := HQ2.out
          have rX : Row (w10.alloc (.cells #[.slice (some ⟨cb, 0, none⟩) n2 n2] 66)) w10.heap.size #[.slice (some ⟨cb, 0, none⟩) n2 n2] 66 := Row.new _ _ _
          have b11 : Below w10.heap.size w10 (w10.alloc (.cells #[.slice (some ⟨cb, 0, none⟩) n2 n2] 66)) := (Below.refl _ _).alloc (Nat.le_refl _) _
          have hcm : Cm (w10.alloc (.cells #[.slice (some ⟨cb, 0, none⟩) n2 n2] 66)) w10.heap.size cb n2 bs := ⟨rX, q2.below b11 q2.lt, q3⟩
          have b12 : Below w9.heap.size w9 (w10.alloc (.cells #[.slice (some ⟨cb, 0, none⟩) n2 n2] 66)) := below_trans q5 b11
          clear rX b11 q2 q3 q5 HQ2 HRE
          generalize w10.alloc (.cells #[.slice (some ⟨cb, 0, none⟩) n2 n2] 66) = w11 at hcm b12 ⊢
          generalize w10.heap.size = Z at hcm ⊢
          have B11 : Below w7.heap.size w7 w11 := below_trans HB9.out b12
          have Rk11 := HRK.out.off (Off.of_below (F := fun _ => False) b12) (fun q => q) (fun q => q)
          have hGL : ∀ b ∈ G3 (i : Int), ∃ j : Nat, b = (j : Int) ∧ j < n2 := fun b hb => by
            obtain ⟨i', j', e, _, hj'⟩ := ((HIK.out (i : Int) b).1 hb).nat
            exact ⟨j', by have := congrArg Prod.snd e; exact this, by rw [← HN2.out]; exact hj'⟩
          have hGN : (G3 (i : Int)).length ≤ n2 := by
            have h2 : (G3 (i : Int)).length ≤ ((List.range n2).map fun (k : Nat) => (k : Int)).length := nodup_le (HNK.out _) (fun b hb => by
              obtain ⟨j, rfl, hj⟩ := hGL b hb
              exact List.mem_map.2 ⟨j, List.mem_range.2 hj, rfl⟩)
            simpa using h2
          have hcf := containsf_any hcm (GI.Nums.off HGU.out (Off.of_below (F := fun _ => False) B11) (fun _ _ q => q)) hGL (by omega)
          have HQ4 : Hid (∀ j, j < n2 → (bs[j]? = some true ↔ Come (Edge hs) i j)) := q4
          have HGL : Hid (∀ b ∈ G3 (i : Int), ∃ j : Nat, b = (j : Int) ∧ j < n2) := hGL
          have hle11 := Rk11.left_eq
          clear b12 hcm q4 hGL hGN
          obtain ⟨Z2, HZ2⟩ : ∃ Z2 : Prop, Hid ((∃ i' : Nat, (i' : Int) ∈ G3 (i : Int) ∧ bs[i']? = some true) ↔ Z2) := ⟨_, Iff.rfl⟩
          rw [HZ2.out] at hcf
          go_upto_block 0 with (go_at_call 50; refine hcf.mono ?_; clear hcf; intro e w12 hq; obtain ⟨b, he, hb, hw⟩ := hq; rw [hw]; clear hw w12; obtain rfl := he; have HBB : Hid (b = true ↔ Z2) := hb; clear hb)
          case roundEnd =>
            have hb : b = false := by assumption
            refine ⟨⟨_, cnt', Rk11, fun y hy1 hy2 hy3 hy4 => ?_, B11⟩, by rw [hle11, hle]; exact hlt⟩
            by_cases e : y = (i : Int)
            · obtain ⟨i', j, e1, hj, hc⟩ := hy4
              have e3 : i' = i := by omega
              subst e3
              obtain ⟨j', e2, hj'⟩ := HGL.out _ (by rw [← e]; exact hj)
              have e4 : j = j' := by omega
              have := HBB.out.2 (HZ2.out.1 ⟨j, by rw [← e]; exact hj, (HQ4.out j (by omega)).2 hc⟩)
              rw [hb] at this; cases this
            · exact HIX.out y hy1 hy2 (by simpa [e] using hy3) hy4
          have hb : b = true := by assumption
          obtain ⟨j, hj1, hj2⟩ := HZ2.out.2 (HBB.out.1 hb)
          obtain ⟨j', e2, hj'⟩ := HGL.out _ hj1
          have e4 : j = j' := by omega
          exact HYES.out ⟨i, j, (HIK.out _ _).1 hj1, (HQ4.out j (by omega)).1 hj2⟩ w11 (below_trans HB7.out B11)
    · obtain ⟨hds, rfl⟩ := SMp.unit (hs := hs) HP2.out hfy
      obtain ⟨i, j, rfl, hi, hj⟩ := hds.nat
      replace hnx : ∀ ty, (Instr.next (.pointer (some ⟨r, 0, none⟩)) false ty).run Try.prog wr = .ok (.tuple #[.bool true, .agg #[.int .i64 (i : Int), .int .i64 (j : Int)], .agg #[]]) w2 := hnx
      replace hen : (Instr.entry (.pointer (some ⟨r, 0, none⟩))).run Try.prog w2 = .ok (.tuple #[.agg #[.int .i64 (i : Int), .int .i64 (j : Int)], .agg #[]]) w2 := hen
      obtain ⟨or1, hor1, hor2, hor3⟩ := Rk.range_is
      have Ork : Off (· = r) wr w2 := Off.of_grown gk (fun q hq => by cases hq; rfl)
      have hrm : r ≠ m := fun q => by
        obtain ⟨es, cl, hb⟩ := Gk.1.is
        rw [← q, hor1] at hb
        exact hor3 _ _ (Option.some.inj hb)
      have hmp : mp ≠ m := fun q => by have := HH0.out.row.lt; have h2 := HD0.out; have hpl := HPL.out; have := HWM.out; omega
      have Gk2 : GI.GAt w2 (m + 1) m n3 F3 G3 := Gk.apart Ork (fun e => hrm e.symm) (fun jj cs t xx e h1 => by rw [e, hor1] at h1; exact hor2 _ _ _ (Option.some.inj h1))
      have Bw2 := below_off Bw Ork (fun k e => by rw [e, HWM.out]; exact Nat.le_of_lt HRL.out)
      have HDS : Hid (PasI hs ((i : Int), (j : Int))) := hds
      have HIK : Hid (∀ (x b : Int), b ∈ G3 x ↔ (PasI hs (x, b) ∧ left (x, b) = false)) := Ik
      have HNK : Hid (∀ x, (G3 x).Nodup) := Nk
      have HLF : Hid (left ((i : Int), (j : Int)) = true) := hlf
      clear hor1 hor2 hor3 Ork Bw sk' gk Rk hfy hlf hy hds Ik Nk Gk
      go_upto_region 5 with fail
      have rX : Row (w2.alloc (.cells #[.int .i64 (i : Int), .int .i64 (j : Int)] 105)) w2.heap.size #[.int .i64 (i : Int), .int .i64 (j : Int)] 105 := Row.new _ _ _
      have b3 : Below w2.heap.size w2 (w2.alloc (.cells #[.int .i64 (i : Int), .int .i64 (j : Int)] 105)) := (Below.refl _ _).alloc (Nat.le_refl _) _
      have Gk3 := Gk2.below b3
      have Bw3 := below_trans Bw2 b3
      have Rk3 := Rk'.off (Off.of_below (F := fun _ => False) b3) (fun q => q) (fun q => q)
      have HOK : Hid (E3.ok (i : Int)) := WalkArith.wf_i64 (by simp; have := HN2.out; omega)
      obtain ⟨u, HU0⟩ : ∃ u, Hid ((F3 (i : Int)).getD (.slice none 0 0) = u) := ⟨_, rfl⟩
      have HNU : Hid (GI.Nums w2 (m + 1) u (G3 (i : Int))) := by
        obtain ⟨u', h1, h2, _⟩ := Gk2.look (by unfold maxLen; omega) HOK.out
        have h3 := KMap.look Try.underlying109 (zero103 w2) Gk2.1 HOK.out
        have e : u' = u := by
          rw [h3] at h1
          rw [← HU0.out]
          injection h1 with e _; exact e.symm
        rw [← e]; exact h2
      have hXB : Hid (∀ b v xs, GI.Nums w2 (m + 1) v xs → v.ownBlock = some b → b ≠ w2.heap.size) := fun b v xs hnn hb => by have := (hnn.lt b hb).2; omega
      generalize w2.alloc (.cells #[.int .i64 (i : Int), .int .i64 (j : Int)] 105) = w3 at rX b3 Gk3 Bw3 Rk3 ⊢
      generalize w2.heap.size = T at rX hXB ⊢
      clear b3 Bw2 Rk' Gk2 hnx hen
      refine wp_region_last (S := fun w' => Row w' T #[.int .i64 (i : Int), .int .i64 (j : Int)] 105 ∧ KMap E3 w' m n3 F3) 11 (by kernel_rfl) ⟨rX, Gk3.1⟩ fun hS => ?_
      refine wpAnyL_take (i := 0) (v := .map (some m)) rfl (by kernel_rfl) (by kernel_rfl) (by kernel_rfl) (by kernel_rfl) (fun _ _ _ h => h) (Or.inl ⟨by rfl, fun w _ => by go_simp⟩) hS ?_
      try simp only [Act.put, nz0, nz1, nz2, nz3, nz4, nz5]
      refine wpAnyL_take (i := 1) (v := .pointer (some ⟨T, 0, none⟩)) rfl (by kernel_rfl) (by kernel_rfl) (by kernel_rfl) (by kernel_rfl) (fun _ _ _ h => h) (Or.inl ⟨by rfl, fun w _ => by go_simp⟩) hS ?_
      try simp only [Act.put, nz0, nz1, nz2, nz3, nz4, nz5]
      refine wpAnyL_take (i := 2) (v := .int .i64 (i : Int)) rfl (by kernel_rfl) (by kernel_rfl) (by kernel_rfl) (by kernel_rfl) (fun _ _ _ h => h) (Or.inl ⟨by rfl, fun w h => by have c := row_at h.1 0 _ rfl; go_simp⟩) hS ?_
      try simp only [Act.put, nz0, nz1, nz2, nz3, nz4, nz5]
      refine wpAnyL_take (i := 3) (v := .map (some m)) rfl (by kernel_rfl) (by kernel_rfl) (by kernel_rfl) (by kernel_rfl) (fun _ _ _ h => h) (Or.inl ⟨by rfl, fun w _ => by go_simp⟩) hS ?_
      try simp only [Act.put, nz0, nz1, nz2, nz3, nz4, nz5]
      refine wpAnyL_take (i := 4) (v := .pointer (some ⟨T, 0, none⟩)) rfl (by kernel_rfl) (by kernel_rfl) (by kernel_rfl) (by kernel_rfl) (fun _ _ _ h => h) (Or.inl ⟨by rfl, fun w _ => by go_simp⟩) hS ?_
      try simp only [Act.put, nz0, nz1, nz2, nz3, nz4, nz5]
      refine wpAnyL_take (i := 5) (v := .int .i64 (i : Int)) rfl (by kernel_rfl) (by kernel_rfl) (by kernel_rfl) (by kernel_rfl) (fun _ _ _ h => h) (Or.inl ⟨by rfl, fun w h => by have c := row_at h.1 0 _ rfl; go_simp⟩) hS ?_
      try simp only [Act.put, nz0, nz1, nz2, nz3, nz4, nz5]
      refine wpAnyL_take (i := 6) (v := u) rfl (by kernel_rfl) (by kernel_rfl) (by kernel_rfl) (by kernel_rfl) (fun _ _ _ h => h) (yields_lookup (by rfl) 109 (.tmp 22) (.tmp 24) false rfl _ _ _ rfl rfl (fun w h => by have q := KMap.look Try.underlying109 (zero103 w) h.2 HOK.out; rw [HU0.out] at q; exact q)) hS ?_
      try simp only [Act.put, nz0, nz1, nz2, nz3, nz4, nz5]
      refine wpAnyL_take (i := 7) (v := .pointer (some ⟨T, 1, none⟩)) rfl (by kernel_rfl) (by kernel_rfl) (by kernel_rfl) (by kernel_rfl) (fun _ _ _ h => h) (Or.inl ⟨by rfl, fun w _ => by go_simp⟩) hS ?_
      try simp only [Act.put, nz0, nz1, nz2, nz3, nz4, nz5]
      refine wpAnyL_take (i := 8) (v := .int .i64 (j : Int)) rfl (by kernel_rfl) (by kernel_rfl) (by kernel_rfl) (by kernel_rfl) (fun _ _ _ h => h) (Or.inl ⟨by rfl, fun w h => by have c := row_at h.1 1 _ rfl; go_simp⟩) hS ?_
      try simp only [Act.put, nz0, nz1, nz2, nz3, nz4, nz5]
      refine wpAnyL_ready (rs := [9]) (by kernel_rfl) (by simp) ?_
      refine AllReadyL.cons rfl (fun K hK => ?_) AllReadyL.nil
      have rZ : Row (w3.alloc (.cells #[.int .i64 (j : Int)] 3)).drew w3.heap.size #[.int .i64 (j : Int)] 3 := Row.new w3 _ _
      have b4 : Below w3.heap.size w3 (w3.alloc (.cells #[.int .i64 (j : Int)] 3)).drew := ((Below.refl _ _).alloc (Nat.le_refl _) _).drew
      have Gk4 := Gk3.below b4
      have hS4 := (show Row (w3.alloc (.cells #[.int .i64 (j : Int)] 3)).drew T #[.int .i64 (i : Int), .int .i64 (j : Int)] 105 ∧ KMap E3 (w3.alloc (.cells #[.int .i64 (j : Int)] 3)).drew m n3 F3 from ⟨rX.below b4 rX.lt, Gk4.1⟩)
      have Bw4 := below_trans Bw3 b4
      have Rk4 := Rk3.off (Off.of_below (F := fun _ => False) b4) (fun q => q) (fun q => q)
      go_simp
      refine hK.out _ _ (fun _ => hS4) ?_
      try simp only [Act.put, nz0, nz1, nz2, nz3, nz4, nz5]
      generalize hZ : w3.heap.size = Z at rZ ⊢
      clear hZ
      generalize (w3.alloc (.cells #[.int .i64 (j : Int)] 3)).drew = w4 at rZ b4 hS4 Gk4 Bw4 Rk4 ⊢
      clear b4 Gk3 Bw3 Rk3 rX hS
      obtain ⟨u', hl1, hnu, hback⟩ := Gk4.look (by unfold maxLen; omega) HOK.out
      obtain rfl : u = u' := by
        have h3 := KMap.look Try.underlying109 (zero103 w4) Gk4.1 HOK.out
        rw [h3, HU0.out] at hl1
        injection hl1
      have HML : Hid (m + 1 ≤ w4.heap.size) := Gk4.1.lt
      have hlen : (G3 (i : Int)).length ≤ 1000000 := by
        have h2 : (G3 (i : Int)).length ≤ ((List.range n2).map fun (k : Nat) => (k : Int)).length := nodup_le (HNK.out _) (fun b hb => by
          obtain ⟨i', j', e, _, hj'⟩ := ((HIK.out _ b).1 hb).1.nat
          have e2 : b = (j' : Int) := by have := congrArg Prod.snd e; exact this
          rw [e2]
          exact List.mem_map.2 ⟨j', List.mem_range.2 (by rw [← HN2.out]; exact hj'), rfl⟩)
        simp at h2
        omega
      have HAP : Hid (∀ ty, ∃ v' w', (Builtin.append_ #[103, 103] ty #[u, .slice (some ⟨Z, 0, none⟩) 1 1]).run Try.prog w4 = .ok v' w' ∧ GI.Nums w' (m + 1) v' (G3 (i : Int) ++ [(j : Int)]) ∧ w4.grownBy w' u.ownBlock ∧ (v'.ownBlock = u.ownBlock ∨ v'.ownBlock = some w4.heap.size)) := fun ty => hnu.snoc ty Z (j : Int) rZ HML.out hlen
      have HBK : Hid (GI.Back w4 (m + 1) m n3 F3 G3 (i : Int) u) := hback
      have hubX : ∀ b, u.ownBlock = some b → b ≠ T := fun b hb => hXB.out b u _ HNU.out hb
      have hubB : ∀ b, u.ownBlock = some b → m + 1 ≤ b := fun b hb => (hnu.lt b hb).1
      have hubC : ∀ b, u.ownBlock = some b → ∃ cs, w4.heap[b]? = some (.cells cs 3 (0, 0)) := hnu.cells
      clear hl1 hback hnu rZ Gk4 hlen
      refine wpAnyL_ready (rs := [10]) (by kernel_rfl) (by simp) ?_
      refine AllReadyL.cons rfl (fun K hK => step_of rfl (Us.wp_copy (.tmp 25) (.tmp 28) 103 rfl _ _ rfl rfl (T := fun v' w' => GI.Nums w' (m + 1) v' (G3 (i : Int) ++ [(j : Int)]) ∧ w4.grownBy w' u.ownBlock ∧ (v'.ownBlock = u.ownBlock ∨ v'.ownBlock = some w4.heap.size)) (fun ty => HAP.out ty) ?_)) AllReadyL.nil
      intro v5 w5 hT
      obtain ⟨hn5, hg5, hl5⟩ := hT
      have Ou : Off (fun k => u.ownBlock = some k) w4 w5 := Off.of_grown hg5 (fun k e => e)
      have hS5 := (show Row w5 T #[.int .i64 (i : Int), .int .i64 (j : Int)] 105 ∧ KMap E3 w5 m n3 F3 from
        ⟨hS4.1.off Ou (fun e => hubX _ e rfl),
         hS4.2.off Ou (fun e => by obtain ⟨cs, hc⟩ := hubC _ e; obtain ⟨es, cl, hb⟩ := hS4.2.is; rw [hb] at hc; cases hc)⟩)
      have Rk5 := Rk4.off Ou (fun e => by obtain ⟨cs, hc⟩ := hubC _ e; obtain ⟨es, cl, hb⟩ := Rk4.map.is; rw [hb] at hc; cases hc) (fun e => by obtain ⟨cs, hc⟩ := hubC _ e; obtain ⟨o1, ho1, ho2, _⟩ := Rk4.range_is; rw [ho1] at hc; exact ho2 _ _ _ (Option.some.inj hc))
      have Bw5 := below_off Bw4 Ou (fun k e => by have := hubB k e; rw [HWM.out]; omega)
      obtain ⟨w6, F6, hst, G6, hg6⟩ := HBK.out w5 v5 _ hg5 hn5 (by simp) (by rcases hl5 with q | q; exact Or.inl q; exact Or.inr ⟨_, q, Nat.le_refl _⟩)
      have Om : Off (· = m) w5 w6 := Off.of_grown hg6 (fun k e => by cases e; rfl)
      have Rk6 := Rk5.off Om hmp hrm
      have Bw6 := below_off Bw5 Om (fun k e => by rw [e, HWM.out]; exact Nat.le_refl _)
      have hle6 := Rk6.left_eq
      have hst' : (Instr.mapUpdate 109 (.map (some m)) (.int .i64 (i : Int)) v5).run Try.prog w5 = .ok () w6 := hst
      have hI6 : ∀ (x b : Int), b ∈ GI.gput G3 (i : Int) (G3 (i : Int) ++ [(j : Int)]) x ↔ (PasI hs (x, b) ∧ (left (x, b) && !decide ((x, b) = ((i : Int), (j : Int)))) = false) := fun x b => by
        unfold GI.gput
        by_cases e : x = (i : Int)
        · subst e
          rw [if_pos rfl, List.mem_append, HIK.out]
          by_cases eb : b = (j : Int)
          · subst eb; simp [HDS.out]
          · simp [eb]
        · rw [if_neg e, HIK.out]
          simp [e]
      have hN6 : ∀ x, (GI.gput G3 (i : Int) (G3 (i : Int) ++ [(j : Int)]) x).Nodup := fun x => by
        unfold GI.gput
        by_cases e : x = (i : Int)
        · rw [if_pos e]
          refine List.nodup_append.2 ⟨HNK.out _, by simp, fun y hy z hz => ?_⟩
          simp at hz; subst hz
          intro e; subst e
          have := ((HIK.out _ _).1 hy).2
          rw [HLF.out] at this; cases this
        · rw [if_neg e]; exact HNK.out x
      have HI6 : Hid (∀ (x b : Int), b ∈ GI.gput G3 (i : Int) (G3 (i : Int) ++ [(j : Int)]) x ↔ (PasI hs (x, b) ∧ (left (x, b) && !decide ((x, b) = ((i : Int), (j : Int)))) = false)) := hI6
      have HN6 : Hid (∀ x, (GI.gput G3 (i : Int) (G3 (i : Int) ++ [(j : Int)]) x).Nodup) := hN6
      clear hI6 hN6
      refine hK.out _ _ (fun _ => hS5) ?_
      try simp only [Act.put, nz0, nz1, nz2, nz3, nz4, nz5]
      refine wpAnyL_ready (rs := [11]) (by kernel_rfl) (by simp) ?_
      refine AllReadyL.cons rfl (fun K hK => step_of rfl (wp_update 109 (.tmp 19) (.tmp 21) (.tmp 29) rfl _ _ _ rfl rfl rfl w6 hst' (hK.out _ _ (fun q => absurd rfl q) ?_))) AllReadyL.nil
      try simp only [Act.put, nz0, nz1, nz2, nz3, nz4, nz5]
      refine wpAnyL_done (by kernel_rfl) ?_ _
      clear hst hst' HAP HBK hubX hubB hubC hn5 hg5 hl5 Ou hS5 Rk5 Bw5 hg6 Om hS4 Rk4 Bw4
      go_wp2
      go_roundw
      case rel => exact ⟨_, cnt', n3 + 1, F6, _, Rk6, G6, HI6.out, HN6.out, by omega, Bw6⟩
      case measure => rw [hle6, hle]; exact hlt
end Go.Proofs.Ytdlllnkcjfpajaa
namespace Go.Proofs.Ytdlllnkcjfpajaa
open Go.ChangeShapes Go.WideShapes Go.ChangeAt Go.RowKit
set_option linter.unusedVariables false
set_option linter.unusedSimpArgs false
set_option maxRecDepth 20000
open Relation
theorem countP_flip {p q : Nat → Bool} {i : Nat} (hp : p i = false) (hq : q i = true) (hne : ∀ a, a ≠ i → p a = q a) : ∀ (l : List Nat), l.Nodup → i ∈ l → l.countP q = l.countP p + 1
  | [], _, h => by simp at h
  | a :: r, hn, h => by
    have hn2 := List.nodup_cons.1 hn
    by_cases e : a = i
    · subst e
      rw [List.countP_cons_of_pos hq, List.countP_cons_of_neg (by rw [hp]; simp)]
      congr 1
      refine List.countP_congr fun x hx => ?_
      rw [hne x (fun q => hn2.1 (q ▸ hx))]
    · have hi : i ∈ r := by
        rcases List.mem_cons.1 h with h | h
        · exact absurd h.symm e
        · exact h
      have ih := countP_flip hp hq hne r hn2.2 hi
      by_cases ha : q a = true
      · rw [List.countP_cons_of_pos ha, List.countP_cons_of_pos (by rw [hne a e]; exact ha), ih]
      · rw [List.countP_cons_of_neg ha, List.countP_cons_of_neg (by rw [hne a e]; exact ha), ih]
def ahd (n : Nat) (d : Nat → Nat → Bool) (W : List Int) (k i : Nat) (S : List Int) (j : Nat) : Nat := (List.range n).countP fun a => d a j && !decide ((a : Int) ∈ W.take k) && !(decide (a = i) && decide ((j : Int) ∈ S))
theorem ahd_le {n : Nat} {d : Nat → Nat → Bool} {W : List Int} {k i : Nat} {S : List Int} {j : Nat} : ahd n d W k i S j ≤ n := by
  have := List.countP_le_length (l := List.range n) (p := fun a => d a j && !decide ((a : Int) ∈ W.take k) && !(decide (a = i) && decide ((j : Int) ∈ S)))
  unfold ahd; simpa using this
structure Kahn (n : Nat) (d : Nat → Nat → Bool) (ks : List Int) (W : List Int) (k i : Nat) (S : List Int) : Prop where
  klen : ks.length = n
  cnt : ∀ j, j < n → ks[j]? = some (ahd n d W k i S j : Int)
  zero : ∀ j, j < n → ((j : Int) ∈ W ↔ ks[j]? = some 0)
  nod : W.Nodup
  mem : ∀ x ∈ W, ∃ j : Nat, x = j ∧ j < n
  top : ∀ q j a : Nat, W[q]? = some (j : Int) → a < n → d a j = true → (a : Int) ∈ W.take q
theorem Kahn.few {n : Nat} {d : Nat → Nat → Bool} {ks W : List Int} {k i : Nat} {S : List Int} (h : Kahn n d ks W k i S) : W.length ≤ n := by
  have h2 : W.length ≤ ((List.range n).map fun (k : Nat) => (k : Int)).length := nodup_le h.nod (fun b hb => by
    obtain ⟨j, rfl, hj⟩ := h.mem b hb
    exact List.mem_map.2 ⟨j, List.mem_range.2 hj, rfl⟩)
  simpa using h2
theorem ahd_nil {n : Nat} {d : Nat → Nat → Bool} {W : List Int} {k i i' : Nat} {j : Nat} : ahd n d W k i [] j = ahd n d W k i' [] j := by
  unfold ahd; simp
theorem Kahn.begin {n : Nat} {d : Nat → Nat → Bool} {ks W : List Int} {k i : Nat} (i' : Nat) (h : Kahn n d ks W k i []) : Kahn n d ks W k i' [] :=
  ⟨h.klen, fun j hj => by rw [ahd_nil (i' := i)]; exact h.cnt j hj, h.zero, h.nod, h.mem, h.top⟩
theorem take_app {W : List Int} {k : Nat} (h : k ≤ W.length) (z : List Int) : (W ++ z).take k = W.take k := by
  rw [List.take_append_of_le_length h]
theorem nodup_take {W : List Int} (h : W.Nodup) {k : Nat} {x : Int} (hk : W[k]? = some x) : x ∉ W.take k := fun q => by
  obtain ⟨p, hp⟩ := List.getElem?_of_mem q
  rw [List.getElem?_take] at hp
  by_cases e : p < k
  · rw [if_pos e] at hp
    obtain ⟨h1, e1⟩ := List.getElem?_eq_some_iff.1 hp
    obtain ⟨h2, e2⟩ := List.getElem?_eq_some_iff.1 hk
    exact List.pairwise_iff_getElem.1 h p k h1 h2 e (e1.trans e2.symm)
  · rw [if_neg e] at hp; cases hp
theorem Kahn.step {n : Nat} {d : Nat → Nat → Bool} {ks W : List Int} {k i : Nat} {S : List Int} (h : Kahn n d ks W k i S) (hk : W[k]? = some (i : Int)) (hi : i < n) {j : Nat} (hj : j < n) (hd : d i j = true) (hS : (j : Int) ∉ S) :
    ∃ c : Int, ks[j]? = some c ∧ 1 ≤ c ∧ c ≤ n ∧ (c - 1 = 0 → Kahn n d (ks.set j (c - 1)) (W ++ [(j : Int)]) k i (S ++ [(j : Int)])) ∧ (c - 1 ≠ 0 → Kahn n d (ks.set j (c - 1)) W k i (S ++ [(j : Int)])) := by
  have hkl := (List.getElem?_eq_some_iff.1 hk).1
  have hiW := nodup_take h.nod hk
  have h1 : ahd n d W k i S j = ahd n d W k i (S ++ [(j : Int)]) j + 1 := by
    unfold ahd
    refine countP_flip (i := i) ?_ ?_ ?_ (List.range n) List.nodup_range (List.mem_range.2 hi)
    · simp
    · simp [hd, hS, hiW]
    · intro a ha; simp [ha]
  have h2 : ∀ j', j' ≠ j → ahd n d W k i (S ++ [(j : Int)]) j' = ahd n d W k i S j' := fun j' hne => by
    unfold ahd
    refine List.countP_congr fun a _ => ?_
    have : ((j' : Int) ∈ S ++ [(j : Int)]) ↔ (j' : Int) ∈ S := by
      rw [List.mem_append]; simp; intro q; omega
    simp only [this]
  have hW : ∀ j' S', ahd n d (W ++ [(j : Int)]) k i S' j' = ahd n d W k i S' j' := fun j' S' => by
    unfold ahd; rw [take_app (by omega)]
  have hlj : j < ks.length := by rw [h.klen]; exact hj
  have hjW : (j : Int) ∉ W := fun q => by
    have := (h.zero j hj).1 q
    rw [h.cnt j hj] at this
    have := Option.some.inj this
    omega
  have hcnt : ∀ j', j' < n → (ks.set j ((ahd n d W k i S j : Int) - 1))[j']? = some (ahd n d W k i (S ++ [(j : Int)]) j' : Int) := fun j' hj' => by
    by_cases e : j' = j
    · subst e
      rw [List.getElem?_set_self hlj]
      congr 1; omega
    · rw [List.getElem?_set_ne (fun q => e q.symm), h.cnt j' hj', h2 j' e]
  refine ⟨(ahd n d W k i S j : Int), h.cnt j hj, by omega, by have := ahd_le (n := n) (d := d) (W := W) (k := k) (i := i) (S := S) (j := j); omega, fun hz => ?_, fun hz => ?_⟩
  · refine ⟨by rw [List.length_set]; exact h.klen, fun j' hj' => by rw [hW]; exact hcnt j' hj', fun j' hj' => ?_, ?_, fun x hx => ?_, fun q j' a hq ha hda => ?_⟩
    · rw [List.mem_append, hcnt j' hj']
      by_cases e : j' = j
      · subst e
        have : ahd n d W k i (S ++ [(j' : Int)]) j' = 0 := by omega
        rw [this]; simp
      · rw [h2 j' e, ← h.cnt j' hj', ← h.zero j' hj']
        simp; intro q; omega
    · exact List.nodup_append.2 ⟨h.nod, by simp, fun x hx y hy => by simp at hy; subst hy; intro q; subst q; exact hjW hx⟩
    · rcases List.mem_append.1 hx with hx | hx
      · exact h.mem x hx
      · simp at hx; exact ⟨j, hx, hj⟩
    · by_cases hql : q < W.length
      · rw [List.getElem?_append_left hql] at hq
        rw [take_app (by omega)]
        exact h.top q j' a hq ha hda
      · have hq2 : q = W.length := by
          have := (List.getElem?_eq_some_iff.1 hq).1
          simp at this; omega
        subst hq2
        have hjj : j' = j := by
          rw [List.getElem?_append_right (Nat.le_refl _)] at hq
          simp at hq; omega
        subst hjj
        rw [take_app (Nat.le_refl _), List.take_length]
        have h0 : ahd n d W k i (S ++ [(j' : Int)]) j' = 0 := by omega
        unfold ahd at h0
        rw [List.countP_eq_zero] at h0
        have := h0 a (List.mem_range.2 ha)
        by_cases hak : (a : Int) ∈ W.take k
        · exact List.mem_of_mem_take hak
        · by_cases hai : a = i
          · subst hai; exact List.mem_of_getElem? hk
          · simp [hda, hak, hai] at this
  · refine ⟨by rw [List.length_set]; exact h.klen, hcnt, fun j' hj' => ?_, h.nod, h.mem, h.top⟩
    rw [hcnt j' hj']
    by_cases e : j' = j
    · subst e
      refine ⟨fun q => absurd q hjW, fun q => ?_⟩
      have := Option.some.inj q
      omega
    · rw [h2 j' e, ← h.cnt j' hj', ← h.zero j' hj']
theorem Kahn.next {n : Nat} {d : Nat → Nat → Bool} {ks W : List Int} {k i : Nat} {S : List Int} (h : Kahn n d ks W k i S) (hk : W[k]? = some (i : Int)) (hS : ∀ j, j < n → d i j = true → (j : Int) ∈ S) : Kahn n d ks W (k + 1) 0 [] :=
  ⟨h.klen, fun j hj => by
    rw [h.cnt j hj]
    congr 2
    unfold ahd
    refine List.countP_congr fun a _ => ?_
    obtain ⟨hkl, hke⟩ := List.getElem?_eq_some_iff.1 hk
    have ht : W.take (k + 1) = W.take k ++ [(i : Int)] := by rw [List.take_succ_eq_append_getElem hkl, hke]
    rw [ht]
    by_cases hda : d a j = true
    · by_cases hai : a = i
      · subst hai
        simp [hda, hS j hj hda]
      · have : ¬ (a : Int) = (i : Int) := by omega
        simp [hda, hai, this]
    · simp [hda], h.zero, h.nod, h.mem, h.top⟩
theorem idx_take {W : List Int} {x : Int} {q : Nat} (h : x ∈ W.take q) : W.idxOf x < q := by
  have h1 := List.idxOf_lt_length_of_mem h
  have h2 : W.idxOf x = (W.take q).idxOf x := by
    conv => lhs; rw [← List.take_append_drop q W]
    rw [List.idxOf_append, if_pos h]
  rw [h2]
  have := List.length_take_le q W
  omega
theorem Kahn.done {n : Nat} {d : Nat → Nat → Bool} {ks W : List Int} {k i : Nat} (h : Kahn n d ks W k i []) (hk : W.length ≤ k) {R : Nat → Nat → Prop} (hR : ∀ a b, R a b ↔ (a < n ∧ b < n ∧ d a b = true)) :
    W.length < n ↔ ∃ x, TransGen R x x := by
  constructor
  · intro hl
    have hex : ∃ j, j < n ∧ (j : Int) ∉ W := by
      refine Classical.byContradiction fun hno => ?_
      have h2 : ((List.range n).map fun (k : Nat) => (k : Int)).length ≤ W.length := nodup_le (List.Pairwise.map _ (fun a b hne => by intro e; exact hne (by omega)) List.nodup_range) (fun b hb => by
        obtain ⟨j, hj, rfl⟩ := List.mem_map.1 hb
        exact Classical.byContradiction fun q => hno ⟨j, List.mem_range.1 hj, q⟩)
      simp at h2
      omega
    obtain ⟨j0, hj0, hj0W⟩ := hex
    refine circle_of ((List.range n).filter fun (j : Nat) => !decide ((j : Int) ∈ W)) (fun q => ?_) (fun x hx => ?_)
    · have : j0 ∈ (List.range n).filter fun (j : Nat) => !decide ((j : Int) ∈ W) := List.mem_filter.2 ⟨List.mem_range.2 hj0, by simp [hj0W]⟩
      rw [q] at this; simp at this
    · obtain ⟨hx1, hx2⟩ := List.mem_filter.1 hx
      have hxn := List.mem_range.1 hx1
      have hxW : (x : Int) ∉ W := by simpa using hx2
      have hc := h.cnt x hxn
      have hnz : ahd n d W k i [] x ≠ 0 := fun q => hxW ((h.zero x hxn).2 (by rw [hc, q]; rfl))
      have : ∃ a ∈ List.range n, (d a x && !decide ((a : Int) ∈ W.take k) && !(decide (a = i) && decide ((x : Int) ∈ ([] : List Int)))) = true := by
        refine Classical.byContradiction fun hno => hnz ?_
        unfold ahd
        rw [List.countP_eq_zero]
        exact fun a ha q => hno ⟨a, ha, q⟩
      obtain ⟨a, ha, hp⟩ := this
      simp only [Bool.and_eq_true, Bool.not_eq_true', decide_eq_false_iff_not] at hp
      have haW : (a : Int) ∉ W := by have := hp.1.2; rwa [List.take_of_length_le hk] at this
      exact ⟨a, List.mem_filter.2 ⟨ha, by simp [haW]⟩, (hR a x).2 ⟨List.mem_range.1 ha, hxn, hp.1.1⟩⟩
  · rintro ⟨x, hx⟩
    refine Classical.byContradiction fun hl => ?_
    have hall : ∀ j, j < n → (j : Int) ∈ W := fun j hj => Classical.byContradiction fun q => by
      have h2 : ((j : Int) :: W).length ≤ ((List.range n).map fun (k : Nat) => (k : Int)).length := nodup_le (List.nodup_cons.2 ⟨q, h.nod⟩) (fun b hb => by
        rcases List.mem_cons.1 hb with rfl | hb
        · exact List.mem_map.2 ⟨j, List.mem_range.2 hj, rfl⟩
        · obtain ⟨j', rfl, hj'⟩ := h.mem b hb
          exact List.mem_map.2 ⟨j', List.mem_range.2 hj', rfl⟩)
      simp at h2
      omega
    refine no_circle (fun a : Nat => W.idxOf (a : Int)) (fun a b hab => ?_) x hx
    obtain ⟨ha, hb, hd⟩ := (hR a b).1 hab
    have hq : W[W.idxOf (b : Int)]? = some (b : Int) := by
      rw [List.getElem?_eq_getElem (List.idxOf_lt_length_of_mem (hall b hb)), List.getElem_idxOf]
    exact idx_take (h.top _ b a hq ha hd)
end Go.Proofs.Ytdlllnkcjfpajaa
