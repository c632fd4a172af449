/-
  Plain facts: what a broken-off Store leaves, and what Load then tells.
-/
import Derived.Test.YtcbjjofckhohjaaMcr
namespace Go.Proofs.Ytcbjjofckhohjaa
open Go.ChangeShapes Go.WideShapes Go.ChangeAt Go.RowKit
set_option linter.unusedVariables false
set_option linter.unusedSimpArgs false
set_option maxRecDepth 20000

/-- A sector's stamp. -/
def secS (xs : List Int) : Int := Sl.num (fun j => xs.getD (56 + j) 0) 8
theorem stamp_blk (F : Nat → List Int) (hF : ∀ i, i < 4 → (F i).length = 64) (i : Nat) (hi : i < 4) : Sl.stampAt (blk F 4) i = secS (F i) := by
  rw [Sl.stampAt_fl _ i hi]
  unfold secS
  refine Sl.num_congr _ _ 8 fun j hj => ?_
  rw [(blk_getD F hF 4 (by omega)).2, if_pos (by omega), show (64 * i + 56 + j) / 64 = i by omega, show (64 * i + 56 + j) % 64 = 56 + j by omega]
theorem secS_zs : secS (zs 64) = 0 := by decide +kernel
theorem secS_cut (m : M) (hf : m.Fit) (i : Nat) (hi : i < 4) : secS (cut (packB m) i) = m.seq := by
  have h := stamp_blk (cut (packB m)) (fun i hi => cut_length _ _ (packB_length m) hi) i hi
  rw [blk_cut _ (packB_length m)] at h
  rw [← h]
  exact Sl.stamp_sealed m.seq (payM m) hf.seq.1 hf.seq.2 i hi
theorem isM_stamps (F : Nat → List Int) (hF : ∀ i, i < 4 → (F i).length = 64) (i j : Nat) (hi : i < 4) (hj : j < 4) (h : secS (F i) ≠ secS (F j)) : isM (blk F 4) = false := by
  have st := stamp_blk F hF
  have hw : whole (blk F 4) = false := by
    unfold whole
    refine decide_eq_false fun ⟨h1, h2, h3⟩ => h ?_
    have all : ∀ k, k < 4 → secS (F k) = Sl.stampAt (blk F 4) 0 := fun k hk => by
      rw [← st k hk]
      match k, hk with
      | 0, _ => rfl
      | 1, _ => exact h1
      | 2, _ => exact h2
      | 3, _ => exact h3
    rw [all i hi, all j hj]
  unfold isM
  rw [hw]; rfl
theorem put_len (f : Secs) (c s : Int) (x : List Int) (hx : x.length = 64) (h : ∀ b j, (f.get b j).length = 64) (b j : Int) : ((f.put c s x).get b j).length = 64 := by
  unfold Secs.get Secs.put
  split
  · exact hx
  · exact h b j
theorem over_len : ∀ (ps : List (Int × Int × List Int)) (f : Secs), (∀ q ∈ ps, q.2.2.length = 64) → (∀ b j, (f.get b j).length = 64) → ∀ b j, ((over f ps).get b j).length = 64
  | [], f, _, h => h
  | q :: r, f, hq, h => over_len r _ (fun x hx => hq x (List.mem_cons_of_mem _ hx)) (put_len f _ _ _ (hq q (List.mem_cons_self ..)) h)
/-- The four sectors of a write. -/
def four (c : Int) (x : List Int) : List (Int × Int × List Int) := [(c, 0, cut x 0), (c, 1, cut x 1), (c, 2, cut x 2), (c, 3, cut x 3)]
theorem kept_four (f : Secs) (c : Int) (x : List Int) (bl : List Bool) (i : Nat) (hi : i < 4) : (over f (kept (four c x) bl 4)).get c (i : Int) = if bl.getD i false = true then cut x i else f.get c (i : Int) := by
  cases h0 : bl[0]?.getD false <;> cases h1 : bl[1]?.getD false <;> cases h2 : bl[2]?.getD false <;> cases h3 : bl[3]?.getD false <;>
    (match i, hi with
     | 0, _ => simp [kept, h0, h1, h2, h3, four, over, Secs.put, Secs.get]
     | 1, _ => simp [kept, h0, h1, h2, h3, four, over, Secs.put, Secs.get]
     | 2, _ => simp [kept, h0, h1, h2, h3, four, over, Secs.put, Secs.get]
     | 3, _ => simp [kept, h0, h1, h2, h3, four, over, Secs.put, Secs.get])
theorem kept_four_mem (c : Int) (x : List Int) (bl : List Bool) : ∀ q ∈ kept (four c x) bl 4, q.1 = c ∧ ∃ k, k < 4 ∧ q.2.2 = cut x k := fun q hq => by
  have h := kept_mem (four c x) bl 4 (by simp [four]) q hq
  simp [four] at h
  rcases h with rfl | rfl | rfl | rfl
  · exact ⟨rfl, 0, by omega, rfl⟩
  · exact ⟨rfl, 1, by omega, rfl⟩
  · exact ⟨rfl, 2, by omega, rfl⟩
  · exact ⟨rfl, 3, by omega, rfl⟩
theorem over_four_block (f : Secs) (c : Int) (x : List Int) (hx : x.length = 256) : (over f (four c x)).block c = x := by
  conv => rhs; rw [← blk_cut x hx]
  unfold Secs.block
  refine blk_congr _ _ (fun i hi => ?_) (fun i hi => ?_)
  · match i, hi with
    | 0, _ => simp [four, over, Secs.put, Secs.get]; exact cut_length _ _ hx (by omega)
    | 1, _ => simp [four, over, Secs.put, Secs.get]; exact cut_length _ _ hx (by omega)
    | 2, _ => simp [four, over, Secs.put, Secs.get]; exact cut_length _ _ hx (by omega)
    | 3, _ => simp [four, over, Secs.put, Secs.get]; exact cut_length _ _ hx (by omega)
  · match i, hi with
    | 0, _ => simp [four, over, Secs.put, Secs.get]
    | 1, _ => simp [four, over, Secs.put, Secs.get]
    | 2, _ => simp [four, over, Secs.put, Secs.get]
    | 3, _ => simp [four, over, Secs.put, Secs.get]

/-- A disk at rest: what its sectors are. -/
structure Rest (D : Dsk) (f : Secs) : Prop where
  n : D.n = 3
  on : D.down = false
  pend : D.pend = []
  sure : D.sure = f
theorem ask_rest {D : Dsk} {f : Secs} (h : Rest D f) (F : Int) (sl : Int) (hs : 0 ≤ sl ∧ sl ≤ 1) : ask (D.plan [] F) sl = if F = 1 then (4, ⟨3, f, [], true, 1, F, fun i => decide (i ∈ ([] : List Int))⟩) else (0, ⟨3, f, [], false, 1, F, fun i => decide (i ∈ ([] : List Int))⟩) := by
  obtain ⟨n, sure, pend, down, ops, fuse, fails⟩ := D
  obtain ⟨h1, h2, h3, h4⟩ := h
  simp only at h1 h2 h3 h4
  subst h1 h2 h3 h4
  unfold ask Dsk.plan count
  simp only
  rw [if_neg (by simp), if_pos ⟨hs.1, by show sl < ((3 : Nat) : Int); omega⟩]
  by_cases e : F = 1
  · subst e; simp
  · rw [if_neg (by omega), if_neg (by simp), if_neg e]; simp
theorem wrote_four (n : Nat) (f : Secs) (o F : Int) (fl : Int → Bool) (c : Int) (x : List Int) : (Dsk.mk n f [] false o F fl).wrote c x 4 = ⟨n, f, four c x, false, o, F, fl⟩ := by
  simp [Dsk.wrote, Dsk.push, four]
theorem sync_four (f : Secs) (ps : List (Int × Int × List Int)) (F : Int) (fl : Int → Bool) (hF : 2 < F) (hl : fl 2 = false) : sync ⟨3, f, ps, false, 1, F, fl⟩ = (0, ⟨3, over f ps, [], false, 2, F, fl⟩) := by
  have c : count ⟨3, f, ps, false, 1, F, fl⟩ = (0, ⟨3, f, ps, false, 2, F, fl⟩) := by
    unfold count
    show (if (1 : Int) + 1 = F then _ else if fl ((1 : Int) + 1) = true then _ else _) = _
    rw [if_neg (by omega), if_neg (by rw [show (1 : Int) + 1 = 2 from rfl, hl]; simp)]
    rfl
  unfold sync
  rw [c]
  rfl
/-- What Store answers of a disk at rest with a fuse, and what it leaves behind a crash. -/
theorem stor_rest {D : Dsk} {f : Secs} (h : Rest D f) (F : Int) (hF : 1 ≤ F) (sl : Int) (m : M) (hm : okS m sl = true) (bl : List Bool) :
    (storD (D.plan [] F) sl m).2.ops ≤ 2 ∧
    (F = 1 → (storD (D.plan [] F) sl m).1 = 4 ∧ Rest ((storD (D.plan [] F) sl m).2.crash bl) f) ∧
    (F = 2 → (storD (D.plan [] F) sl m).1 = 4 ∧ Rest ((storD (D.plan [] F) sl m).2.crash bl) (over f (kept (four sl (packB m)) bl 4))) ∧
    (2 < F → (storD (D.plan [] F) sl m).1 = 0 ∧ Rest ((storD (D.plan [] F) sl m).2.crash bl) (over f (four sl (packB m)))) := by
  have hs : 0 ≤ sl ∧ sl ≤ 1 := by unfold okS at hm; simp at hm; exact hm.2
  have e := ask_rest h F sl hs
  by_cases f1 : F = 1
  · rw [if_pos f1] at e
    have w : writ (D.plan [] F) sl (packB m) = (4, ⟨3, f, [], true, 1, F, fun i => decide (i ∈ ([] : List Int))⟩) := by unfold writ; rw [e]; rfl
    have s : storD (D.plan [] F) sl m = (4, ⟨3, f, [], true, 1, F, fun i => decide (i ∈ ([] : List Int))⟩) := by unfold storD; rw [hm, w]; rfl
    rw [s]
    refine ⟨by show (1 : Int) ≤ 2; decide, fun _ => ⟨rfl, rfl, rfl, rfl, rfl⟩, fun q => by omega, fun q => by omega⟩
  · rw [if_neg f1] at e
    have w : writ (D.plan [] F) sl (packB m) = (0, ⟨3, f, four sl (packB m), false, 1, F, fun i => decide (i ∈ ([] : List Int))⟩) := by unfold writ; rw [e, if_pos rfl, wrote_four]
    by_cases f2 : F = 2
    · have s : storD (D.plan [] F) sl m = (4, ⟨3, f, four sl (packB m), true, 2, F, fun i => decide (i ∈ ([] : List Int))⟩) := by
        unfold storD; rw [hm, w]
        simp only [if_true]
        unfold sync count
        subst f2
        simp
      rw [s]
      refine ⟨by show (2 : Int) ≤ 2; decide, fun q => by omega, fun _ => ⟨rfl, rfl, rfl, rfl, rfl⟩, fun q => by omega⟩
    · have s : storD (D.plan [] F) sl m = (0, ⟨3, over f (four sl (packB m)), [], false, 2, F, fun i => decide (i ∈ ([] : List Int))⟩) := by
        unfold storD; rw [hm, w]
        simp only [if_true]
        exact sync_four f _ F _ (by omega) rfl
      rw [s]
      refine ⟨by show (2 : Int) ≤ 2; decide, fun q => by omega, fun q => by omega, fun _ => ⟨rfl, rfl, rfl, rfl, rfl⟩⟩
theorem load_rest {D : Dsk} {f : Secs} (bl : List Bool) (h : Rest (D.crash bl) f) : loadR (D.crash bl) = ldB (f.block 0) (f.block 1) ∧ Rest (loadD (D.crash bl)) f := by
  have w : Well (D.crash bl) 3 0 := ⟨h.n, rfl, rfl, fun i => by show decide (i ∈ ([] : List Int)) = false; simp, by show (0 : Int) ≤ 0; decide, by show (0 : Int) ≤ 0; decide⟩
  obtain ⟨h1, h2⟩ := load_well w (by decide)
  rw [h1, h2]
  constructor
  · rw [seen_none _ h.pend, seen_none _ h.pend, h.sure]
  · exact ⟨h.n, h.on, h.pend, h.sure⟩

/-- What stays true of a disk and a master through the rounds: bl and F are what is kept and where the power goes. -/
structure CInv (f : Secs) (old : M) (t : Int) (bl : List Bool) (F : Int) : Prop where
  t01 : t = 0 ∨ t = 1
  fit : old.Fit
  may : mayM old = true
  low : 7 ≤ old.seq
  len : ∀ b j, (f.get b j).length = 64
  cur : f.block t = packB old
  oth : isM (f.block (1 - t)) = false ∨ (gotM (f.block (1 - t))).seq < old.seq
  torn : F = 2 → (∃ j, j < 4 ∧ bl.getD j false = true) → ∀ j : Nat, j < 4 → bl.getD j false = false → secS (f.get (1 - t) (j : Int)) = 0
theorem CInv.stays {f : Secs} {old : M} {t : Int} {bl : List Bool} {F : Int} (h : CInv f old t bl F) : ldB (f.block 0) (f.block 1) = (old, t, 0) := by
  have hi := isM_packB old h.fit h.may
  have hg := gotM_packB old h.fit h.may
  rcases h.t01 with rfl | rfl
  · rw [ldB_fst (by rw [h.cur]; exact hi) (by rw [h.cur, hg]; exact h.oth.imp id (fun q => by have : (1 : Int) - 0 = 1 := rfl; rw [this] at q; omega)), h.cur, hg]
  · rw [ldB_snd (by rw [h.cur]; exact hi) (by rw [h.cur, hg]; exact h.oth), h.cur, hg]
/-- A newer master stands in the other block. -/
theorem CInv.flips {f : Secs} {old nx : M} {t : Int} {bl : List Bool} {F : Int} (h : CInv f old t bl F) (hf : nx.Fit) (hm : mayM nx = true) (hs : old.seq < nx.seq) (g : Secs)
    (hlen : ∀ b j, (g.get b j).length = 64) (h1 : g.block t = f.block t) (h2 : g.block (1 - t) = packB nx) (ht : F = 2 → (∃ j, j < 4 ∧ bl.getD j false = true) → ∀ j : Nat, j < 4 → bl.getD j false = true) : CInv g nx (1 - t) bl F where
  t01 := by rcases h.t01 with rfl | rfl; · exact Or.inr rfl
            · exact Or.inl rfl
  fit := hf
  may := hm
  low := by have := h.low; omega
  len := hlen
  cur := h2
  oth := by
    rw [show 1 - (1 - t) = t by omega, h1, h.cur, gotM_packB old h.fit h.may]
    exact Or.inr hs
  torn := fun q1 q2 j hj q3 => by rw [ht q1 q2 j hj] at q3; cases q3
/-- A round. -/
theorem CInv.round {f : Secs} {old nx : M} {t : Int} {bl : List Bool} {F : Int} (h : CInv f old t bl F) (hF : 1 ≤ F) (hf : nx.Fit) (hm : mayM nx = true) (hs : old.seq < nx.seq) {D : Dsk} (hD : Rest D f) :
    ∃ (E : Int) (D1 D3 : Dsk) (g : Secs) (m' : M) (t' : Int), storD (D.plan [] F) (1 - t) nx = (E, D1) ∧ D1.ops ≤ 2 ∧ loadR (D1.crash bl) = (m', t', 0) ∧ loadD (D1.crash bl) = D3 ∧ Rest D3 g ∧ CInv g m' t' bl F ∧
      ((m' = old ∧ t' = t ∧ E ≠ 0) ∨ (m' = nx ∧ t' = 1 - t)) := by
  have ho : okS nx (1 - t) = true := by
    unfold okS
    rw [hm]
    rcases h.t01 with rfl | rfl <;> decide
  obtain ⟨s0, s1, s2, s3⟩ := stor_rest hD F hF (1 - t) nx ho bl
  have hne : t ≠ 1 - t := by omega
  obtain ⟨⟨E, D1⟩, hst⟩ : ∃ x, storD (D.plan [] F) (1 - t) nx = x := ⟨_, rfl⟩
  rw [hst] at s0 s1 s2 s3
  simp only at s0 s1 s2 s3
  have hpl := packB_length nx
  by_cases f1 : F = 1
  · obtain ⟨a1, a2⟩ := s1 f1
    obtain ⟨b1, b2⟩ := load_rest bl a2
    exact ⟨E, D1, _, f, old, t, hst, s0, by rw [b1]; exact h.stays, rfl, b2, h, Or.inl ⟨rfl, rfl, by rw [a1]; decide⟩⟩
  · by_cases f2 : F = 2
    · obtain ⟨a1, a2⟩ := s2 f2
      obtain ⟨b1, b2⟩ := load_rest bl a2
      have hmem := kept_four_mem (1 - t) (packB nx) bl
      have hget := fun i hi => kept_four f (1 - t) (packB nx) bl i hi
      obtain ⟨g, hg⟩ : ∃ g, over f (kept (four (1 - t) (packB nx)) bl 4) = g := ⟨_, rfl⟩
      have glen : ∀ b j, (g.get b j).length = 64 := by
        rw [← hg]
        refine over_len _ _ (fun q hq => ?_) h.len
        obtain ⟨_, k, hk, e⟩ := hmem q hq
        rw [e]; exact cut_length _ _ hpl hk
      have gcur : g.block t = f.block t := by
        rw [← hg]
        exact block_out _ _ _ (fun q hq => by rw [(hmem q hq).1]; omega)
      rw [hg] at hget a2 b1 b2
      have gblk : g.block (1 - t) = blk (fun i => if bl.getD i false = true then cut (packB nx) i else f.get (1 - t) (i : Int)) 4 := by
        unfold Secs.block
        exact blk_congr _ _ (fun i hi => glen _ _) (fun i hi => hget i hi)
      have flen : ∀ i, i < 4 → (if bl.getD i false = true then cut (packB nx) i else f.get (1 - t) (i : Int)).length = 64 := fun i hi => by
        split
        · exact cut_length _ _ hpl hi
        · exact h.len _ _
      by_cases all : ∀ j : Nat, j < 4 → bl.getD j false = true
      · have e : g.block (1 - t) = packB nx := by
          rw [gblk, ← blk_cut (packB nx) hpl]
          refine blk_congr _ _ (by rw [blk_cut (packB nx) hpl]; exact flen) (fun i hi => ?_)
          rw [if_pos (all i hi), blk_cut (packB nx) hpl]
        have hc := h.flips hf hm hs g glen gcur e (fun _ _ => all)
        refine ⟨E, D1, _, g, nx, 1 - t, hst, s0, by rw [b1]; exact hc.stays, rfl, b2, hc, Or.inr ⟨rfl, rfl⟩⟩
      · by_cases some : ∃ j, j < 4 ∧ bl.getD j false = true
        · obtain ⟨i, hi, hi'⟩ : ∃ i, i < 4 ∧ bl.getD i false = false := by
            refine Classical.byContradiction fun q => all fun j hj => ?_
            cases e : bl.getD j false
            · exact absurd ⟨j, hj, e⟩ q
            · rfl
          have hz := h.torn f2 some
          obtain ⟨j, hj, hj'⟩ := some
          have hno : isM (g.block (1 - t)) = false := by
            rw [gblk]
            refine isM_stamps _ flen i j hi hj ?_
            rw [if_neg (by rw [hi']; simp), if_pos hj', hz i hi hi', secS_cut nx hf j hj]
            have := h.low; omega
          have hc : CInv g old t bl F := ⟨h.t01, h.fit, h.may, h.low, glen, by rw [gcur]; exact h.cur, Or.inl hno, fun _ _ k hk hk' => by
            rw [hget k hk, if_neg (by rw [hk']; simp)]; exact hz k hk hk'⟩
          exact ⟨E, D1, _, g, old, t, hst, s0, by rw [b1]; exact hc.stays, rfl, b2, hc, Or.inl ⟨rfl, rfl, by rw [a1]; decide⟩⟩
        · have e : g.block (1 - t) = f.block (1 - t) := by
            rw [gblk]
            unfold Secs.block
            refine blk_congr _ _ flen (fun i hi => ?_)
            rw [if_neg (fun q => some ⟨i, hi, q⟩)]
          have hc : CInv g old t bl F := ⟨h.t01, h.fit, h.may, h.low, glen, by rw [gcur]; exact h.cur, by rw [e]; exact h.oth, fun _ q => absurd q some⟩
          exact ⟨E, D1, _, g, old, t, hst, s0, by rw [b1]; exact hc.stays, rfl, b2, hc, Or.inl ⟨rfl, rfl, by rw [a1]; decide⟩⟩
    · obtain ⟨a1, a2⟩ := s3 (by omega)
      obtain ⟨b1, b2⟩ := load_rest bl a2
      have glen : ∀ b j, ((over f (four (1 - t) (packB nx))).get b j).length = 64 := by
        refine over_len _ _ (fun q hq => ?_) h.len
        simp [four] at hq
        rcases hq with rfl | rfl | rfl | rfl <;> exact cut_length _ _ hpl (by omega)
      have gcur : (over f (four (1 - t) (packB nx))).block t = f.block t := block_out _ _ _ (fun q hq => by
        simp [four] at hq
        rcases hq with rfl | rfl | rfl | rfl <;> (show 1 - t ≠ t; omega))
      have hc := h.flips hf hm hs _ glen gcur (over_four_block f (1 - t) (packB nx) hpl) (fun q => absurd q f2)
      exact ⟨E, D1, _, _, nx, 1 - t, hst, s0, by rw [b1]; exact hc.stays, rfl, b2, hc, Or.inr ⟨rfl, rfl⟩⟩
/-- How it begins. -/
theorem CInv.first (t : Int) (ht : t = 0 ∨ t = 1) (bl : List Bool) (F : Int) : ∃ (D : Dsk) (f : Secs), storD (Dsk.new 3) t (plainM 7) = (0, D) ∧ Rest D f ∧ CInv f (plainM 7) t bl F := by
  have hf : (plainM 7).Fit := plain_fit 7 (by decide)
  have hm : mayM (plainM 7) = true := by decide +kernel
  have ho : okS (plainM 7) t = true := by
    unfold okS; rw [hm]
    rcases ht with rfl | rfl <;> decide
  have hpl := packB_length (plainM 7)
  have e := stor_well (new_well 3) t (plainM 7) ho (by decide)
  refine ⟨_, over (fun _ _ => none) (four t (packB (plainM 7))), e, ⟨rfl, rfl, rfl, ?_⟩, ?_⟩
  · rfl
  · have glen : ∀ b j, ((over (fun _ _ => none) (four t (packB (plainM 7)))).get b j).length = 64 := by
      refine over_len _ _ (fun q hq => ?_) (fun b j => by simp [Secs.get, zs_length])
      simp [four] at hq
      rcases hq with rfl | rfl | rfl | rfl <;> exact cut_length _ _ hpl (by omega)
    have out : ∀ s, over (fun _ _ => none) (four t (packB (plainM 7))) (1 - t) s = none := over_out _ _ _ (fun q hq => by
      simp [four] at hq
      rcases hq with rfl | rfl | rfl | rfl <;> (show t ≠ 1 - t; omega))
    refine ⟨ht, hf, hm, by decide, glen, over_four_block _ t _ hpl, Or.inl ?_, fun _ _ j hj _ => ?_⟩
    · have : (over (fun _ _ => none) (four t (packB (plainM 7)))).block (1 - t) = zs 256 := by
        rw [← blk_zero]
        unfold Secs.block
        refine blk_congr _ _ (fun i hi => glen _ _) (fun i hi => ?_)
        unfold Secs.get
        rw [out]; rfl
      rw [this]; exact isM_zs
    · unfold Secs.get
      rw [out]; exact secS_zs
end Go.Proofs.Ytcbjjofckhohjaa
