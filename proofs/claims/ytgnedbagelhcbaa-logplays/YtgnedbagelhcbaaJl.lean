/-
  Proved here: the document's Cut and Lay of a block of four sectors. The document's disk as it lies in memory: what was written and lasts, what was written since, what fails; whether an operation is done. Proved here: which block the document's writes make, the later ones over the earlier ones. Proved here: what the document's disk tells of a block, and what reading makes of it. Proved here: what planning and syncing make of the document's disk. Proved here: what writing makes of the document's disk. Proved here: what a crash makes of the document's disk. Plain facts: a disk and the document's disk that tell the same go on telling the same, whatever is asked.
-/
import Derived.Test.YtgnedbagelhcbaaLst
import Derived.Test.YtgnedbagelhcbaaJd
import Derived.Test.YtgnedbagelhcbaaChl
import Derived.Deep.CutBlock
import Derived.Deep.MidRow
import Derived.BigQuiet
import Derived.WalkSmall
namespace Go.Proofs.Ytgnedbagelhcbaa
open Go.ChangeShapes Go.WideShapes Go.ChangeAt Go.RowKit
set_option linter.unusedVariables false
set_option linter.unusedSimpArgs false
set_option maxRecDepth 20000
theorem cut_getD (b : List Int) (i j : Nat) (hj : j < 64) : (cut b i).getD j 0 = b.getD (64 * i + j) 0 := by
  unfold cut
  simp only [List.getD]
  rw [List.getElem?_take, if_pos hj, List.getElem?_drop]
theorem cut_upto (b : List Int) (i : Nat) (hb : b.length = 256) (hi : i < 4) : upto 64 (fun j => b.getD (64 * i + j) 0) 64 = cut b i := by
  rw [upto_whole]
  symm
  apply eq_fl _ _ _ (cut_length b i hb hi)
  intro j hj
  exact cut_getD b i j hj
set_option maxRecDepth 20000 in
theorem rcut_in (b : List Int) (hb : b.length = 256) (i : Nat) (hi : i < 4) (w : World) :
    Calls Try.prog 91 #[.agg (bs b), .int .i64 i] w fun e w' => e = .returned (.agg (bs (cut b i))) ∧ Below w.heap.size w w' := by
  have hz := zero113
  rw [← cut_upto b i hb hi]
  have i0 : 0 ≤ (i : Int) := by omega
  have i3 : (i : Int) ≤ 3 := by omega
  go_enter Try.func91, Try.ntmps91
  go_wp2
  go_loopw [6] (fun c wr => ∃ k : Nat, k ≤ 64 ∧ c = .int .i64 k ∧ Row wr w.heap.size (bs b) 55 ∧ Row wr (w.heap.size + 1) (bs (zs 64)) 113 ∧ Row wr (w.heap.size + 1 + 1) (bs (upto 64 (fun j => b.getD (64 * i + j) 0) k)) 113 ∧ Below w.heap.size w wr) (fun i _ => 64 - (intOf i).toNat)
  case atStart =>
    refine ⟨0, by omega, rfl, ?_, ?_, ?_, ?_⟩
    · exact ((Row.new _ _ _).alloc _).alloc _
    · have := (Row.new (w.alloc (Obj.cells (bs b) 55)) (bs (zs 64)) 113).alloc (Obj.cells (bs (zs 64)) 113); simpa using this
    · have := (Row.new ((w.alloc (Obj.cells (bs b) 55)).alloc (Obj.cells (bs (zs 64)) 113)) (bs (zs 64)) 113); rw [← upto_zero]; simpa using this
    · exact ((((Below.refl _ _).alloc (Nat.le_refl _) _).alloc (by simp) _).alloc (by simp; omega) _)
  case round =>
    obtain ⟨k, hk, rfl, r0, r1, r2, hb2⟩ := hrel
    by_cases hlt : k < 64
    · have hc := row_cell r2 k (by rw [upto_length]; omega)
      have hf := row_frozen r2 k
      have hp1 := row_cell r0 (64 * i + k) (by omega)
      have z2 := row_setCell r2 k (b.getD (64 * i + k) 0)
      rw [upto_step 64 (fun j => b.getD (64 * i + j) 0) k] at z2
      obtain ⟨x, HX⟩ : ∃ x, Hid (b.getD (64 * i + k) 0 = x) := ⟨_, rfl⟩
      rw [HX.out] at hp1 z2
      have z0 := row_setCell_other r0 (show w.heap.size ≠ w.heap.size + 1 + 1 by omega) k (.int .u8 x)
      have z1 := row_setCell_other r1 (show w.heap.size + 1 ≠ w.heap.size + 1 + 1 by omega) k (.int .u8 x)
      have zb := hb2.setCell (p := ⟨w.heap.size + 1 + 1, k, none⟩) (by show w.heap.size ≤ w.heap.size + 1 + 1; omega) (.int .u8 x)
      generalize (upto 64 (fun j => b.getD (64 * i + j) 0) k).getD k 0 = y at hc
      go_wp2
      go_roundw
      case rel => exact ⟨k + 1, by omega, by go_num, z0, z1, z2, zb⟩
      case measure => simp [intOf]; omega
    · have e4 : k = 64 := by omega
      subst e4
      have hl := upto_length 64 (fun j => b.getD (64 * i + j) 0) 64
      obtain ⟨S, HS⟩ : ∃ S, Hid (upto 64 (fun j => b.getD (64 * i + j) 0) 64 = S) := ⟨_, rfl⟩
      rw [HS.out] at r2 hl
      go_wp2_with (first
        | (refine load_row rfl 113 (.tmp 5) rfl (w.heap.size + 1 + 1) rfl 113 (bs S) r2 64 5 Try.underlying113 size113 (by rw [bs_size, hl]) ?_)
        | (refine store_row rfl 113 (.tmp 4) (.tmp 26) rfl (w.heap.size + 1) S rfl rfl 113 _ r1 64 size113 (by rw [bs_size, zs_length]) hl ?_))
      refine bodyPost_ret (v := .agg (bs S)) ?_ rfl ⟨by rw [HS.out], below_setRow hb2 (by omega) _⟩
      exact ret_row (fn := Try.f91) rfl _ _ (w.heap.size + 1) 113 (bs S) 64 5 rfl (r1.set _) Try.underlying113 size113 (by rw [bs_size, hl])
def layN (b : List Int) (i : Nat) (s : List Int) (k : Nat) : List Int := fl 256 fun j => if 64 * i ≤ j ∧ j < 64 * i + k then s.getD (j - 64 * i) 0 else b.getD j 0
theorem layN_length (b : List Int) (i : Nat) (s : List Int) (k : Nat) : (layN b i s k).length = 256 := fl_length _ _
theorem layN_zero (b : List Int) (i : Nat) (s : List Int) (hb : b.length = 256) : b = layN b i s 0 := by
  apply eq_fl _ _ _ hb
  intro j hj
  rw [if_neg (by omega)]
theorem layN_step (b : List Int) (i : Nat) (s : List Int) (k : Nat) : (layN b i s k).set (64 * i + k) (s.getD k 0) = layN b i s (k + 1) := by
  unfold layN
  rw [set_fl]
  apply eq_fl _ _ _ (fl_length _ _)
  intro j hj
  rw [fl_at _ _ _ hj]
  by_cases e : j = 64 * i + k
  · subst e; rw [if_pos rfl, if_pos (by omega), show 64 * i + k - 64 * i = k by omega]
  · rw [if_neg e]
    by_cases h : 64 * i ≤ j ∧ j < 64 * i + k
    · rw [if_pos h, if_pos (by omega)]
    · rw [if_neg h, if_neg (by omega)]
theorem layN_whole (b : List Int) (i : Nat) (s : List Int) (hb : b.length = 256) (hs : s.length = 64) (hi : i < 4) : layN b i s 64 = lay b i s := by
  symm
  apply eq_fl _ _ _ (lay_length b i s hb hs hi)
  intro j hj
  unfold lay
  rw [splice_getD _ _ _ _ (by omega), hs]
  by_cases h : j < 64 * i
  · rw [if_pos h, if_neg (by omega)]
  · rw [if_neg h]
    by_cases h2 : j < 64 * i + 64
    · rw [if_pos h2, if_pos (by omega)]
    · rw [if_neg h2, if_neg (by omega)]
set_option maxRecDepth 20000 in
theorem rlay_in (b s : List Int) (hb : b.length = 256) (hs : s.length = 64) (i : Nat) (hi : i < 4) (w : World) :
    Calls Try.prog 78 #[.agg (bs b), .int .i64 i, .agg (bs s)] w fun e w' => e = .returned (.agg (bs (lay b i s))) ∧ Below w.heap.size w w' := by
  have hz := zero55
  rw [← layN_whole b i s hb hs hi]
  have i0 : 0 ≤ (i : Int) := by omega
  have i3 : (i : Int) < 4 := by omega
  go_enter Try.func78, Try.ntmps78
  go_wp2
  go_loopw [7] (fun c wr => ∃ k : Nat, k ≤ 64 ∧ c = .int .i64 k ∧ Row wr w.heap.size (bs (layN b i s k)) 55 ∧ Row wr (w.heap.size + 1) (bs s) 113 ∧ Row wr (w.heap.size + 1 + 1) (bs (zs 256)) 55 ∧ Below w.heap.size w wr) (fun i _ => 64 - (intOf i).toNat)
  case atStart =>
    refine ⟨0, by omega, rfl, ?_, ?_, ?_, ?_⟩
    · rw [← layN_zero b i s hb]; exact ((Row.new _ _ _).alloc _).alloc _
    · have := (Row.new (w.alloc (Obj.cells (bs b) 55)) (bs s) 113).alloc (Obj.cells (bs (zs 256)) 55); simpa using this
    · have := (Row.new ((w.alloc (Obj.cells (bs b) 55)).alloc (Obj.cells (bs s) 113)) (bs (zs 256)) 55); simpa using this
    · exact ((((Below.refl _ _).alloc (Nat.le_refl _) _).alloc (by simp) _).alloc (by simp; omega) _)
  case round =>
    obtain ⟨k, hk, rfl, r0, r1, r2, hb2⟩ := hrel
    by_cases hlt : k < 64
    · have hc := row_cell r0 (64 * i + k) (by rw [layN_length]; omega)
      have hf := row_frozen r0 (64 * i + k)
      have hp1 := row_cell r1 k (by omega)
      have z0 := row_setCell r0 (64 * i + k) (s.getD k 0)
      rw [layN_step b i s k] at z0
      obtain ⟨x, HX⟩ : ∃ x, Hid (s.getD k 0 = x) := ⟨_, rfl⟩
      rw [HX.out] at hp1 z0
      have z1 := row_setCell_other r1 (show w.heap.size + 1 ≠ w.heap.size by omega) (64 * i + k) (.int .u8 x)
      have z2 := row_setCell_other r2 (show w.heap.size + 1 + 1 ≠ w.heap.size by omega) (64 * i + k) (.int .u8 x)
      have zb := hb2.setCell (p := ⟨w.heap.size, 64 * i + k, none⟩) (by show w.heap.size ≤ w.heap.size; omega) (.int .u8 x)
      generalize (layN b i s k).getD (64 * i + k) 0 = y at hc
      go_wp2
      go_roundw
      case rel => exact ⟨k + 1, by omega, by go_num, z0, z1, z2, zb⟩
      case measure => simp [intOf]; omega
    · have e4 : k = 64 := by omega
      subst e4
      have hl := layN_length b i s 64
      obtain ⟨S, HS⟩ : ∃ S, Hid (layN b i s 64 = S) := ⟨_, rfl⟩
      rw [HS.out] at r0 hl
      go_wp2_with (first
        | (refine load_row rfl 55 (.tmp 3) rfl w.heap.size rfl 55 (bs S) r0 256 5 Try.underlying55 size55 (by rw [bs_size, hl]) ?_)
        | (refine store_row rfl 55 (.tmp 6) (.tmp 28) rfl (w.heap.size + 1 + 1) S rfl rfl 55 _ r2 256 size55 (by rw [bs_size, zs_length]) hl ?_))
      refine bodyPost_ret (v := .agg (bs S)) ?_ rfl ⟨by rw [HS.out], below_setRow hb2 (by omega) _⟩
      exact ret_row (fn := Try.f78) rfl _ _ (w.heap.size + 1 + 1) 55 (bs S) 256 5 rfl (r2.set _) Try.underlying55 size55 (by rw [bs_size, hl])
end Go.Proofs.Ytgnedbagelhcbaa
namespace Go.Proofs.Ytgnedbagelhcbaa
open Go.ChangeShapes Go.WideShapes Go.ChangeAt Go.RowKit
set_option linter.unusedVariables false
set_option linter.unusedSimpArgs false
set_option maxRecDepth 20000
structure RD where
  n : Nat
  sure : List (Int × Int × List Int)
  pend : List (Int × Int × List Int)
  fails : List Int
  fuse : Int
  ops : Int
  down : Bool
def rdcells (R : RD) (vs vp vf : Value) : Array Value := #[.int .i64 R.n, vs, vp, vf, .int .i64 R.fuse, .int .i64 R.ops, .bool R.down]
def rfoot (r : Nat) (vs vp vf : Value) (j : Nat) : Prop := j = r ∨ vs.ownBlock = some j ∨ vp.ownBlock = some j ∨ vf.ownBlock = some j
def okW (q : Int × Int × List Int) : Prop := 0 ≤ q.2.1 ∧ q.2.1 < 4 ∧ Sec q.2.2
structure RDAt (w : World) (r : Nat) (R : RD) (vs vp vf : Value) (N : Nat) : Prop where
  row : Row w r (rdcells R vs vp vf) 32
  sure : w.ownsRow 0 146 66 vs R.sure.length (pcells R.sure)
  pend : w.ownsRow 0 146 66 vp R.pend.length (pcells R.pend)
  fails : w.ownsRow 0 3 1 vf R.fails.length (R.fails.map (Value.int .i64))
  sp : ∀ k, vs.ownBlock = some k → vp.ownBlock ≠ some k
  sf : ∀ k, vs.ownBlock = some k → vf.ownBlock ≠ some k
  pf : ∀ k, vp.ownBlock = some k → vf.ownBlock ≠ some k
  sr : vs.ownBlock ≠ some r
  pr : vp.ownBlock ≠ some r
  fr : vf.ownBlock ≠ some r
  oks : ∀ q ∈ R.sure, okW q
  okp : ∀ q ∈ R.pend, okW q
  bound : R.sure.length + R.pend.length ≤ N
  big : N < 1000000000
  fbig : R.fails.length ≤ 140737488355328
  opsn : 0 ≤ R.ops
  fusew : Wf R.fuse
theorem RDAt.lt {w : World} {r : Nat} {R : RD} {vs vp vf : Value} {N : Nat} (h : RDAt w r R vs vp vf N) {j : Nat} (hj : rfoot r vs vp vf j) : j < w.heap.size := by
  rcases hj with rfl | e | e | e
  · exact h.row.lt
  · exact (h.sure.lt j e).2
  · exact (h.pend.lt j e).2
  · exact (h.fails.lt j e).2
theorem own_off {F : Nat → Prop} {w w' : World} {base : Nat} {e : TypeId} {size : Nat} {v : Value} {n : Nat} {xs : List Value} (h : w.ownsRow base e size v n xs) (ho : Off F w w') (hF : ∀ k, v.ownBlock = some k → ¬ F k) : w'.ownsRow base e size v n xs :=
  ownsRow_kept h fun k e hl => ho.block k hl (hF k e)
theorem own_form {w : World} {base : Nat} {e : TypeId} {s : Nat} {v : Value} {n : Nat} {xs : List Value} (h : w.ownsRow base e s v n xs) : ∃ oa cap, v = .slice oa n cap := by
  rcases h.2 with ⟨rfl, rfl⟩ | ⟨g, cap, cur, rfl, _⟩
  · exact ⟨none, 0, rfl⟩
  · exact ⟨_, cap, rfl⟩
theorem RDAt.off {F : Nat → Prop} {w w' : World} {r : Nat} {R : RD} {vs vp vf : Value} {N : Nat} (h : RDAt w r R vs vp vf N) (ho : Off F w w') (hF : ∀ k, rfoot r vs vp vf k → ¬ F k) : RDAt w' r R vs vp vf N :=
  { h with
    row := h.row.off ho (hF _ (Or.inl rfl))
    sure := own_off h.sure ho fun k e => hF k (Or.inr (Or.inl e))
    pend := own_off h.pend ho fun k e => hF k (Or.inr (Or.inr (Or.inl e)))
    fails := own_off h.fails ho fun k e => hF k (Or.inr (Or.inr (Or.inr e))) }
theorem RDAt.below {w w' : World} {r : Nat} {R : RD} {vs vp vf : Value} {N : Nat} (h : RDAt w r R vs vp vf N) (hb : Below w.heap.size w w') : RDAt w' r R vs vp vf N :=
  h.off (F := fun _ => False) (Off.of_below hb) fun _ _ q => q
theorem RDAt.upd {w w' : World} {r : Nat} {R R' : RD} {vs vp vf : Value} {N : Nat} (h : RDAt w r R vs vp vf N) (ho : Off (· = r) w w') (hr : Row w' r (rdcells R' vs vp vf) 32) (h1 : R'.sure = R.sure) (h2 : R'.pend = R.pend) (h3 : R'.fails = R.fails) (h4 : 0 ≤ R'.ops) (h5 : Wf R'.fuse) : RDAt w' r R' vs vp vf N :=
  { h with
    row := hr
    sure := by rw [h1]; exact own_off h.sure ho fun k e q => h.sr (q ▸ e)
    pend := by rw [h2]; exact own_off h.pend ho fun k e q => h.pr (q ▸ e)
    fails := by rw [h3]; exact own_off h.fails ho fun k e q => h.fr (q ▸ e)
    oks := by rw [h1]; exact h.oks
    okp := by rw [h2]; exact h.okp
    bound := by rw [h1, h2]; exact h.bound
    fbig := by rw [h3]; exact h.fbig
    opsn := h4
    fusew := h5 }
def rcount (R : RD) : Int × RD := if R.ops + 1 = R.fuse then (4, { R with ops := R.ops + 1, down := true }) else if R.ops + 1 ∈ R.fails then (3, { R with ops := R.ops + 1 }) else (0, { R with ops := R.ops + 1 })
def RStep (w : World) (r : Nat) (vs vp vf : Value) (R' : RD) (N' : Nat) (w' : World) : Prop :=
  ∃ vs' vp' vf', RDAt w' r R' vs' vp' vf' N' ∧ Off (rfoot r vs vp vf) w w' ∧ ∀ j, rfoot r vs' vp' vf' j → rfoot r vs vp vf j ∨ w.heap.size ≤ j
theorem fails_at {w : World} {r : Nat} {R : RD} {vs vp vf : Value} {N : Nat} (h : RDAt w r R vs vp vf N) : ∃ oa cap, vf = .slice oa R.fails.length cap ∧ ∀ (j : Nat), j < R.fails.length → ∃ A : Addr, oa = some A ∧ w.cell? (A.add j) = some (.int .i64 (R.fails.getD j 0)) := by
  obtain ⟨oa, cap, e⟩ := own_form h.fails
  refine ⟨oa, cap, e, fun j hj => ?_⟩
  rcases h.fails.2 with ⟨_, q⟩ | ⟨g, cap', cur, q, hb, hr, _, _, hs, ht⟩
  · omega
  · rw [e] at q
    simp only [Value.slice.injEq] at q
    obtain ⟨rfl, _, rfl⟩ := q
    refine ⟨_, rfl, ?_⟩
    rw [Addr.add_mid, Nat.zero_add]
    refine row_at (cs := cur) (t := 3) hr j _ ?_
    have : (R.fails.map (Value.int .i64))[j]? = some (.int .i64 (R.fails.getD j 0)) := by simp [List.getD, hj]
    rw [← ht, List.getElem?_take, if_pos (by omega)] at this
    simpa using this
set_option maxHeartbeats 1000000 in
theorem rop_any {w : World} {r : Nat} {R : RD} {vs vp vf : Value} {N : Nat} (h : RDAt w r R vs vp vf N) (ho : R.ops < 9223372036854775806) :
    Calls Try.prog 90 #[.pointer (some ⟨r, 0, none⟩)] w fun e w' => e = .returned (.int .i64 (rcount R).1) ∧ RDAt w' r (rcount R).2 vs vp vf N ∧ Off (· = r) w w' := by
  obtain ⟨E, HE⟩ : ∃ E, Hid ((rcount R).1 = E) := ⟨_, rfl⟩
  obtain ⟨R', HR⟩ : ∃ R', Hid ((rcount R).2 = R') := ⟨_, rfl⟩
  rw [HE.out, HR.out]
  have c5 := row_at h.row 5 (.int .i64 R.ops) rfl
  have f5 := row_frozen h.row 5
  have hopn := h.opsn
  have hw1 : IntKind.i64.wrap (R.ops + 1) = R.ops + 1 := by rw [IntKind.wrap_i64]; omega
  have h1 : RDAt (w.setCell ⟨r, 5, none⟩ (.int .i64 (R.ops + 1))) r { R with ops := R.ops + 1 } vs vp vf N := h.upd (Off.of_setCell _ _ _ rfl) (row_set h.row 5 _) rfl rfl rfl (by show 0 ≤ R.ops + 1; omega) h.fusew
  have o1 : Off (· = r) w (w.setCell ⟨r, 5, none⟩ (.int .i64 (R.ops + 1))) := Off.of_setCell _ _ _ rfl
  obtain ⟨oa, cap, hvf, hfc⟩ := fails_at h1
  go_enter Try.func90, Try.ntmps90
  go_upto_region 2 with fail
  clear c5 f5
  generalize w.setCell ⟨r, 5, none⟩ (.int .i64 (R.ops + 1)) = w1 at h1 o1 hfc ⊢
  have c4 := row_at h1.row 4 (.int .i64 R.fuse) rfl
  have c5 := row_at h1.row 5 (.int .i64 (R.ops + 1)) rfl
  by_cases hf : R.ops + 1 = R.fuse
  · have hE : E = 4 := by rw [← HE.out]; unfold rcount; rw [if_pos hf]
    have hR : R' = { R with ops := R.ops + 1, down := true } := by rw [← HR.out]; unfold rcount; rw [if_pos hf]
    subst hE hR
    have hg1 : decide (R.fuse ≥ 1) = true := by simp; omega
    have hg2 : R.fuse ≥ 1 := by omega
    have hg3 : (1 : Int) ≤ R.fuse := by omega
    have hq : (R.ops + 1 == R.fuse) = true := by simpa using hf
    have hfb : Hid (R.ops + 1 = R.fuse) := hf
    have d6 := row_at h1.row 6 (.bool R.down) rfl
    have f6 := row_frozen h1.row 6
    have h2 : RDAt (w1.setCell ⟨r, 6, none⟩ (.bool true)) r { R with ops := R.ops + 1, down := true } vs vp vf N := h1.upd (Off.of_setCell _ _ _ rfl) (row_set h1.row 6 _) rfl rfl rfl (by show 0 ≤ R.ops + 1; omega) h.fusew
    have HH2 : Hid _ := h2
    clear hf h2 hvf hfc
    go_quiet (fail)
    go_wp2_with fail
    go_ret
    refine ⟨rfl, ?_, ?_⟩
    · exact RDAt.off HH2.out (F := fun _ => False) (⟨rfl, rfl, rfl, Nat.le_refl _, fun _ _ _ => rfl⟩ : Off (fun _ => False) (w1.setCell ⟨r, 6, none⟩ (.bool true)) ((w1.drewN nq).setCell ⟨r, 6, none⟩ (.bool true))) (fun _ _ q => q)
    · exact o1.trans ⟨rfl, rfl, rfl, by simp [World.setCell], fun k hk hn => Below.heap_setCell _ _ _ _ hn⟩ (fun _ q => Or.inl q)
  · have HNF : Hid (¬ R.ops + 1 = R.fuse) := hf
    obtain ⟨m, Hm⟩ : ∃ m, Hid (R.fails.length = m) := ⟨_, rfl⟩
    have hvf2 : vf = .slice oa m cap := by rw [← Hm.out]; exact hvf
    subst hvf2
    have hm : m ≤ 140737488355328 := by rw [← Hm.out]; exact h.fbig
    clear hfc hvf h hw1 ho
    have hq : (R.ops + 1 == R.fuse) = false := by simpa using hf
    by_cases hg : R.fuse ≥ 1
    · have hg1 : decide (R.fuse ≥ 1) = true := by simpa using hg
      have hg3 : (1 : Int) ≤ R.fuse := by omega
      clear hf
      go_quiet (fail)
      go_wp2_with fail
      go_loopw [3] (fun i wr => ∃ (j : Nat), i = .int .i64 j ∧ j ≤ m ∧ Hid (∀ t, t < j → ¬ R.fails.getD t 0 = R.ops + 1) ∧ RDAt wr r { R with ops := R.ops + 1 } vs vp (.slice oa m cap) N ∧ Off (· = r) w wr) (fun i _ => m - (intOf i).toNat)
      case atStart => exact ⟨0, rfl, by omega, fun t ht => by omega, h1.below (below_drewN (Below.refl _ _) _), o1.trans (Off.of_below (F := fun _ => False) (below_drewN (Below.refl _ _) _)) (fun _ q => q.elim)⟩
      case round =>
        clear c4 c5 h1 o1
        obtain ⟨j, rfl, hj, HJ, D, ro⟩ := hrel
        have c3 := row_at D.row 3 (.slice oa m cap) rfl
        have c5 := row_at D.row 5 (.int .i64 (R.ops + 1)) rfl
        by_cases hjm : j < m
        · have hjm' : (j : Int) < (m : Int) := by omega
          obtain ⟨oa2, cap2, hv2, hfc2⟩ := fails_at D
          simp only [Value.slice.injEq] at hv2
          obtain ⟨rfl, _, rfl⟩ := hv2
          obtain ⟨A, rfl, hcj⟩ := hfc2 j (by show j < R.fails.length; rw [Hm.out]; exact hjm)
          clear hfc2
          obtain ⟨x, HX⟩ : ∃ x, Hid (R.fails.getD j 0 = x) := ⟨_, rfl⟩
          have hcj2 : wr.cell? (A.add j) = some (.int .i64 x) := by rw [← HX.out]; exact hcj
          clear hcj
          by_cases hx : x = R.ops + 1
          · have hmem : R.ops + 1 ∈ R.fails := by
              have hl : j < R.fails.length := by rw [Hm.out]; exact hjm
              have e := HX.out
              simp only [List.getD, List.getElem?_eq_getElem hl, Option.getD_some] at e
              rw [← hx, ← e]; exact List.getElem_mem hl
            have hE : E = 3 := by rw [← HE.out]; unfold rcount; rw [if_neg HNF.out, if_pos hmem]
            have hR : R' = { R with ops := R.ops + 1 } := by rw [← HR.out]; unfold rcount; rw [if_neg HNF.out, if_pos hmem]
            have HEE : Hid _ := And.intro hE hR
            have hxq : (x == R.ops + 1) = true := by simpa using hx
            have HXX : Hid _ := hx
            clear hx hmem hE hR
            go_upto_region 8 with fail
            go_quiet (fail)
            go_wp2_with fail
            go_ret
            rw [HEE.out.1, HEE.out.2]
            exact ⟨rfl, D.below (below_drewN (Below.refl _ _) _), ro.trans (Off.of_below (F := fun _ => False) (below_drewN (Below.refl _ _) _)) (fun _ q => q.elim)⟩
          · have hxq : (x == R.ops + 1) = false := by simpa using hx
            go_upto_region 8 with fail
            go_quiet (fail)
            go_wp2_with fail
            go_roundw
            case rel =>
              refine ⟨j + 1, by go_num, by omega, fun t ht => ?_, D.below (below_drewN (Below.refl _ _) _), ro.trans (Off.of_below (F := fun _ => False) (below_drewN (Below.refl _ _) _)) (fun _ q => q.elim)⟩
              by_cases e : t = j
              · rw [e, HX.out]; exact hx
              · exact HJ.out t (by omega)
            case measure => simp [intOf]; omega
        · have hjm' : ¬ (j : Int) < (m : Int) := by omega
          have hmem : ¬ R.ops + 1 ∈ R.fails := fun q => by
            obtain ⟨t, ht, e⟩ := List.getElem_of_mem q
            refine HJ.out t (by rw [Hm.out] at ht; omega) ?_
            simp only [List.getD, List.getElem?_eq_getElem ht, Option.getD_some]; exact e
          have hE : E = 0 := by rw [← HE.out]; unfold rcount; rw [if_neg HNF.out, if_neg hmem]
          have hR : R' = { R with ops := R.ops + 1 } := by rw [← HR.out]; unfold rcount; rw [if_neg HNF.out, if_neg hmem]
          have HEE : Hid _ := And.intro hE hR
          clear hmem hE hR
          go_wp2_with fail
          go_ret
          rw [HEE.out.1, HEE.out.2]
          exact ⟨rfl, D, ro⟩
    · have hg1 : decide (R.fuse ≥ 1) = false := by simpa using hg
      have hg4 : decide ((1 : Int) ≤ R.fuse) = false := by simpa using hg
      clear hf
      go_quiet (fail)
      go_wp2_with fail
      go_loopw [3] (fun i wr => ∃ (j : Nat), i = .int .i64 j ∧ j ≤ m ∧ Hid (∀ t, t < j → ¬ R.fails.getD t 0 = R.ops + 1) ∧ RDAt wr r { R with ops := R.ops + 1 } vs vp (.slice oa m cap) N ∧ Off (· = r) w wr) (fun i _ => m - (intOf i).toNat)
      case atStart => exact ⟨0, rfl, by omega, fun t ht => by omega, h1.below (below_drewN (Below.refl _ _) _), o1.trans (Off.of_below (F := fun _ => False) (below_drewN (Below.refl _ _) _)) (fun _ q => q.elim)⟩
      case round =>
        clear c4 c5 h1 o1
        obtain ⟨j, rfl, hj, HJ, D, ro⟩ := hrel
        have c3 := row_at D.row 3 (.slice oa m cap) rfl
        have c5 := row_at D.row 5 (.int .i64 (R.ops + 1)) rfl
        by_cases hjm : j < m
        · have hjm' : (j : Int) < (m : Int) := by omega
          obtain ⟨oa2, cap2, hv2, hfc2⟩ := fails_at D
          simp only [Value.slice.injEq] at hv2
          obtain ⟨rfl, _, rfl⟩ := hv2
          obtain ⟨A, rfl, hcj⟩ := hfc2 j (by show j < R.fails.length; rw [Hm.out]; exact hjm)
          clear hfc2
          obtain ⟨x, HX⟩ : ∃ x, Hid (R.fails.getD j 0 = x) := ⟨_, rfl⟩
          have hcj2 : wr.cell? (A.add j) = some (.int .i64 x) := by rw [← HX.out]; exact hcj
          clear hcj
          by_cases hx : x = R.ops + 1
          · have hmem : R.ops + 1 ∈ R.fails := by
              have hl : j < R.fails.length := by rw [Hm.out]; exact hjm
              have e := HX.out
              simp only [List.getD, List.getElem?_eq_getElem hl, Option.getD_some] at e
              rw [← hx, ← e]; exact List.getElem_mem hl
            have hE : E = 3 := by rw [← HE.out]; unfold rcount; rw [if_neg HNF.out, if_pos hmem]
            have hR : R' = { R with ops := R.ops + 1 } := by rw [← HR.out]; unfold rcount; rw [if_neg HNF.out, if_pos hmem]
            have HEE : Hid _ := And.intro hE hR
            have hxq : (x == R.ops + 1) = true := by simpa using hx
            have HXX : Hid _ := hx
            clear hx hmem hE hR
            go_upto_region 8 with fail
            go_quiet (fail)
            go_wp2_with fail
            go_ret
            rw [HEE.out.1, HEE.out.2]
            exact ⟨rfl, D.below (below_drewN (Below.refl _ _) _), ro.trans (Off.of_below (F := fun _ => False) (below_drewN (Below.refl _ _) _)) (fun _ q => q.elim)⟩
          · have hxq : (x == R.ops + 1) = false := by simpa using hx
            go_upto_region 8 with fail
            go_quiet (fail)
            go_wp2_with fail
            go_roundw
            case rel =>
              refine ⟨j + 1, by go_num, by omega, fun t ht => ?_, D.below (below_drewN (Below.refl _ _) _), ro.trans (Off.of_below (F := fun _ => False) (below_drewN (Below.refl _ _) _)) (fun _ q => q.elim)⟩
              by_cases e : t = j
              · rw [e, HX.out]; exact hx
              · exact HJ.out t (by omega)
            case measure => simp [intOf]; omega
        · have hjm' : ¬ (j : Int) < (m : Int) := by omega
          have hmem : ¬ R.ops + 1 ∈ R.fails := fun q => by
            obtain ⟨t, ht, e⟩ := List.getElem_of_mem q
            refine HJ.out t (by rw [Hm.out] at ht; omega) ?_
            simp only [List.getD, List.getElem?_eq_getElem ht, Option.getD_some]; exact e
          have hE : E = 0 := by rw [← HE.out]; unfold rcount; rw [if_neg HNF.out, if_neg hmem]
          have hR : R' = { R with ops := R.ops + 1 } := by rw [← HR.out]; unfold rcount; rw [if_neg HNF.out, if_neg hmem]
          have HEE : Hid _ := And.intro hE hR
          clear hmem hE hR
          go_wp2_with fail
          go_ret
          rw [HEE.out.1, HEE.out.2]
          exact ⟨rfl, D, ro⟩
end Go.Proofs.Ytgnedbagelhcbaa
namespace Go.Proofs.Ytgnedbagelhcbaa
open Go.ChangeShapes Go.WideShapes Go.ChangeAt Go.RowKit
set_option linter.unusedVariables false
set_option linter.unusedSimpArgs false
set_option maxRecDepth 20000
theorem yields_bytes {P : Program} {ops : Array Oper} {S : World → Prop} {o : Oper} {a : Act} (hw : Region.wanted o (yielded ops a.tmps) = true) (ty : TypeId) (x : Operand) (ho : o.op = .load ty x)
    (b off : Nat) (hx : a.eval x = .pointer (some ⟨b, off, none⟩)) (xs : List Int) (d : TypeDesc) (hS : ∀ w, S w → w.rangeAt b off (xs.map (Value.int .u8)))
    (hu : P.underlying ty = some d) (hd : d.isRow = true) (hi : (P.info? ty).map (·.size) = some xs.length) : YieldsIf P ops S o (.agg (bs xs)) a :=
  yieldsIf_load_mid hw ty x ho b off hx (xs.map (Value.int .u8)) d hS hu hd (by rw [List.length_map]; exact hi)
theorem block_put (f : Secs) (hf : ∀ b s, (f.get b s).length = 64) (q : Int × Int × List Int) (hq : okW q) (b : Int) : (f.put q.1 q.2.1 q.2.2).block b = if q.1 = b then lay (f.block b) q.2.1.toNat q.2.2 else f.block b := by
  unfold Secs.block
  by_cases e : q.1 = b
  · rw [if_pos e, lay_blk _ (fun i _ => hf b i) _ (by have := hq.2.1; have := hq.1; omega) _ hq.2.2.1]
    refine blk_congr _ _ (fun i hi => ?_) (fun i hi => ?_)
    · unfold Secs.get Secs.put
      split
      · exact hq.2.2.1
      · exact hf b i
    · unfold Secs.get Secs.put
      by_cases e2 : i = q.2.1.toNat
      · rw [if_pos e2, if_pos ⟨e.symm, by have := hq.1; omega⟩]; try rfl
      · rw [if_neg e2, if_neg (fun c => e2 (by have := c.2; omega))]; try rfl
  · rw [if_neg e]
    refine blk_congr _ _ (fun i hi => ?_) (fun i hi => ?_)
    · unfold Secs.get Secs.put
      split
      · exact hq.2.2.1
      · exact hf b i
    · unfold Secs.get Secs.put
      rw [if_neg (fun c => e c.1.symm)]
theorem over_get (f : Secs) (hf : ∀ b s, (f.get b s).length = 64) : ∀ (l : List (Int × Int × List Int)), (∀ q ∈ l, okW q) → ∀ b s, ((over f l).get b s).length = 64
  | [], _, b, s => hf b s
  | q :: r, h, b, s => by
    refine over_get (f.put q.1 q.2.1 q.2.2) (fun b s => ?_) r (fun q hq => h q (by simp [hq])) b s
    unfold Secs.get Secs.put
    split
    · exact (h q (by simp)).2.2.1
    · exact hf b s
def noneS : Secs := fun _ _ => none
theorem none_get (b s : Int) : (noneS.get b s).length = 64 := zs_length 64
theorem over_snoc (f : Secs) (l : List (Int × Int × List Int)) (q : Int × Int × List Int) : over f (l ++ [q]) = (over f l).put q.1 q.2.1 q.2.2 := by rw [over_append]; rfl
theorem writes_at {w : World} {v : Value} {l : List (Int × Int × List Int)} (h : w.ownsRow 0 146 66 v l.length (pcells l)) (hs : ∀ q ∈ l, okW q) : ∃ oa cap, v = .slice oa l.length cap ∧ ∀ (k : Nat) (hk : k < l.length), ∃ g, oa = some ⟨g, 0, none⟩ ∧ w.rangeAt g (k * 66) (pcell l[k]) := by
  obtain ⟨oa, cap, e⟩ := own_form h
  refine ⟨oa, cap, e, fun k hk => ?_⟩
  rcases h.2 with ⟨_, q⟩ | ⟨g, cap', cur, q, hb, hr, _, _, hsz, ht⟩
  · omega
  · rw [e] at q
    simp only [Value.slice.injEq] at q
    obtain ⟨rfl, _, rfl⟩ := q
    refine ⟨g, rfl, fun j v hv => ?_⟩
    refine row_at (cs := cur) (t := 146) hr _ _ ?_
    have hp : ∀ q ∈ l, (pcell q).length = 66 := fun q hq => by simp [pcell, (hs q hq).2.2.1]
    have key : ∀ (l : List (Int × Int × List Int)) (k : Nat) (hk : k < l.length), (∀ q ∈ l, (pcell q).length = 66) → (pcells l)[k * 66 + j]? = some v ∨ ¬ (pcell l[k])[j]? = some v := fun l => by
      induction l with
      | nil => intro k hk; simp at hk
      | cons a r ih =>
        intro k hk hp
        cases k with
        | zero =>
          by_cases c : (pcell a)[j]? = some v
          · left
            have hj := (List.getElem?_eq_some_iff.1 c).1
            show (pcell a ++ pcells r)[0 * 66 + j]? = some v
            rw [Nat.zero_mul, Nat.zero_add, List.getElem?_append_left hj]; exact c
          · right; exact c
        | succ k =>
          rcases ih k (by simpa using hk) (fun q hq => hp q (by simp [hq])) with c | c
          · left
            show (pcell a ++ pcells r)[(k + 1) * 66 + j]? = some v
            have h66 := hp a (by simp)
            rw [List.getElem?_append_right (by omega), show (k + 1) * 66 + j - (pcell a).length = k * 66 + j by omega]; exact c
          · right; simpa using c
    rcases key l k hk hp with c | c
    · rw [← ht, List.getElem?_take] at c
      split at c
      · simpa using c
      · cases c
    · exact absurd hv c
structure LayS (w0 : World) (B g i k m cap : Nat) (X xs : List Int) (v0 v1 : Value) (s : Int) (w' : World) : Prop where
  a : Row w' B #[v0, v1] 120
  y : Row w' (B + 1) (bs (zs 256)) 55
  x : Row w' (B + 2) (bs X) 55
  c0 : w'.cell? ⟨B, i, none⟩ = some (.slice (some ⟨g, 0, none⟩) m cap)
  s : w'.cell? ⟨g, k * 66 + 1, none⟩ = some (.int .i64 s)
  r : w'.rangeAt g (k * 66 + 2) (xs.map (Value.int .u8))
  b : Below B w0 w'
set_option maxHeartbeats 2000000 in
set_option maxRecDepth 20000 in
theorem rat_any {w : World} (v0 v1 : Value) (l0 l1 : List (Int × Int × List Int)) (h0 : w.ownsRow 0 146 66 v0 l0.length (pcells l0)) (h1 : w.ownsRow 0 146 66 v1 l1.length (pcells l1)) (k0 : ∀ q ∈ l0, okW q) (k1 : ∀ q ∈ l1, okW q) (n0 : l0.length ≤ 1000000000) (n1 : l1.length ≤ 1000000000) (b : Int) :
    Calls Try.prog 55 #[.agg #[v0, v1], .int .i64 b] w fun e w' => e = .returned (.agg (bs ((over (over noneS l0) l1).block b))) ∧ Below w.heap.size w w' := by
  have hz := zero55
  obtain ⟨V, HV⟩ : ∃ V : Nat → Value, Hid (V 0 = v0 ∧ V 1 = v1) := ⟨fun i => if i = 0 then v0 else v1, rfl, rfl⟩
  obtain ⟨L, HL⟩ : ∃ L : Nat → List (Int × Int × List Int), Hid (L 0 = l0 ∧ L 1 = l1) := ⟨fun i => if i = 0 then l0 else l1, rfl, rfl⟩
  obtain ⟨F, HF⟩ : ∃ F : Nat → Secs, Hid (F 0 = noneS ∧ F 1 = over noneS l0 ∧ F 2 = over (over noneS l0) l1) := ⟨fun i => if i = 0 then noneS else if i = 1 then over noneS l0 else over (over noneS l0) l1, rfl, rfl, rfl⟩
  have HO : Hid (∀ i, i < 2 → w.ownsRow 0 146 66 (V i) (L i).length (pcells (L i)) ∧ (∀ q ∈ L i, okW q) ∧ (L i).length ≤ 1000000000 ∧ F (i + 1) = over (F i) (L i) ∧ (∀ b s, ((F i).get b s).length = 64)) := fun i hi => by
    obtain ⟨a1, a2⟩ := HV.out
    obtain ⟨b1, b2⟩ := HL.out
    obtain ⟨c1, c2, c3⟩ := HF.out
    have : i = 0 ∨ i = 1 := by omega
    rcases this with rfl | rfl
    · rw [a1, b1, c1, c2]; exact ⟨h0, k0, n0, rfl, none_get⟩
    · rw [a2, b2, c2, c3]; exact ⟨h1, k1, n1, rfl, over_get _ none_get _ k0⟩
  have HE : Hid ((over (over noneS l0) l1).block b = (F 2).block b) := by show _ = _; rw [HF.out.2.2]
  rw [HE.out]
  have a0 : Row (((w.alloc (.cells #[v0, v1] 120)).alloc (.cells (bs (zs 256)) 55)).alloc (.cells (bs (zs 256)) 55)) w.heap.size #[v0, v1] 120 := ((Row.new _ _ _).alloc _).alloc _
  have a1 : Row (((w.alloc (.cells #[v0, v1] 120)).alloc (.cells (bs (zs 256)) 55)).alloc (.cells (bs (zs 256)) 55)) (w.heap.size + 1) (bs (zs 256)) 55 := by have := (Row.new (w.alloc (.cells #[v0, v1] 120)) (bs (zs 256)) 55).alloc (.cells (bs (zs 256)) 55); simpa using this
  have a2 : Row (((w.alloc (.cells #[v0, v1] 120)).alloc (.cells (bs (zs 256)) 55)).alloc (.cells (bs (zs 256)) 55)) (w.heap.size + 2) (bs (zs 256)) 55 := by have := (Row.new ((w.alloc (.cells #[v0, v1] 120)).alloc (.cells (bs (zs 256)) 55)) (bs (zs 256)) 55); simpa using this
  have ab : Below w.heap.size w (((w.alloc (.cells #[v0, v1] 120)).alloc (.cells (bs (zs 256)) 55)).alloc (.cells (bs (zs 256)) 55)) := (((Below.refl _ _).alloc (Nat.le_refl _) _).alloc (by simp) _).alloc (by simp; omega) _
  go_enter Try.func55, Try.ntmps55
  go_wp2_with fail
  generalize ((w.alloc (.cells #[v0, v1] 120)).alloc (.cells (bs (zs 256)) 55)).alloc (.cells (bs (zs 256)) 55) = w1 at a0 a1 a2 ab ⊢
  go_loopw [6] (fun c wr => ∃ (i : Nat), c = .int .i64 i ∧ i ≤ 2 ∧ Row wr w.heap.size #[v0, v1] 120 ∧ Row wr (w.heap.size + 1) (bs (zs 256)) 55 ∧ Row wr (w.heap.size + 2) (bs ((F i).block b)) 55 ∧ Below w.heap.size w wr) (fun c _ => 2 - (intOf c).toNat)
  case atStart => exact ⟨0, rfl, by omega, a0, a1, by rw [HF.out.1, show noneS.block b = zs 256 from blk_zero]; exact a2, ab⟩
  case round =>
    clear a0 a1 a2 ab
    obtain ⟨i, rfl, hi, r0, r1, r2, rb⟩ := hrel
    by_cases hi2 : i < 2
    · have hi2' : (i : Int) < 2 := by omega
      obtain ⟨ow, okl, nl, hFn, hFg⟩ := HO.out i hi2
      obtain ⟨oa, cap, hVi, hwr⟩ := writes_at ow okl
      obtain ⟨m, Hm⟩ : ∃ m, Hid ((L i).length = m) := ⟨_, rfl⟩
      rw [Hm.out] at hVi nl
      have HWR : Hid _ := hwr
      have HOK : Hid _ := okl
      have HFN : Hid _ := hFn
      have HFG : Hid _ := hFg
      have HCI : Hid (∀ wx, Row wx w.heap.size #[v0, v1] 120 → wx.cell? ⟨w.heap.size, i, none⟩ = some (.slice oa m cap)) := fun wx hx => by
        have : i = 0 ∨ i = 1 := by omega
        rcases this with rfl | rfl
        · rw [← hVi, HV.out.1]; exact row_at hx 0 _ rfl
        · rw [← hVi, HV.out.2]; exact row_at hx 1 _ rfl
      clear ow okl hwr hFn hFg hVi
      go_wp2_with fail
      go_loopw [7] (fun c wr => ∃ (k : Nat), c = .int .i64 k ∧ k ≤ m ∧ Row wr w.heap.size #[v0, v1] 120 ∧ Row wr (w.heap.size + 1) (bs (zs 256)) 55 ∧ Row wr (w.heap.size + 2) (bs ((over (F i) ((L i).take k)).block b)) 55 ∧ Below w.heap.size w wr) (fun c _ => m - (intOf c).toNat)
      case atStart => exact ⟨0, rfl, by omega, r0, r1, by rw [List.take_zero]; exact r2, rb⟩
      case round =>
        clear r0 r1 r2 rb
        obtain ⟨k, rfl, hk, r0, r1, r2, rb⟩ := hrel
        have ci := HCI.out wr r0
        by_cases hkm : k < m
        · have hkm' : (k : Int) < (m : Int) := by omega
          have hkl : k < (L i).length := by rw [Hm.out]; exact hkm
          obtain ⟨g, hoa, hrg⟩ := HWR.out k hkl
          subst hoa
          have hok := HOK.out _ (List.getElem_mem hkl)
          have hnext : over (F i) ((L i).take (k + 1)) = (over (F i) ((L i).take k)).put (L i)[k].1 (L i)[k].2.1 (L i)[k].2.2 := by
            rw [List.take_add_one, List.getElem?_eq_getElem hkl]
            exact over_snoc _ _ _
          have hget := over_get (F i) HFG.out ((L i).take k) (fun q hq => HOK.out q (List.mem_of_mem_take hq))
          have hput := block_put _ hget _ hok b
          rw [← hnext] at hput
          have hbl : ((over (F i) ((L i).take k)).block b).length = 256 := (blk_getD _ (fun j _ => hget b j) 4 (by omega)).1
          generalize (L i)[k] = qq at hrg hok hput
          obtain ⟨bl, s, xs⟩ := qq
          obtain ⟨hs0, hs4, hxs⟩ := hok
          simp only at hs0 hs4 hxs hput
          have hrw : wr.rangeAt g (k * 66) (pcell (bl, s, xs)) := fun j v hv => by
            have := hrg j v hv
            exact Ck.cell_keep this rb
          have d0 : wr.cell? ⟨g, k * 66, none⟩ = some (.int .i64 bl) := by have := hrw 0 _ rfl; simpa using this
          obtain ⟨X, HX⟩ : ∃ X, Hid ((over (F i) ((L i).take k)).block b = X) := ⟨_, rfl⟩
          rw [HX.out] at r2 hput hbl
          clear hrg hget hnext
          by_cases hb : bl = b
          · rw [if_pos hb] at hput
            have HP : Hid _ := hput
            have hbq : (bl == b) = true := by simpa using hb
            have HBB : Hid _ := hb
            have hLS : LayS w w.heap.size g i k m cap X xs v0 v1 s wr := ⟨r0, r1, r2, ci, by have := hrw 1 _ rfl; simpa using this, fun j v hv => by
              have := hrw (j + 2) v (by simpa [pcell] using hv)
              rw [show k * 66 + 2 + j = k * 66 + (j + 2) by omega]; exact this, rb⟩
            have HXL : Hid _ := hbl
            have HSL : Hid (xs.length = 64) := hxs.1
            have hLL : (lay X s.toNat xs).length = 256 := lay_length _ _ _ hbl hxs.1 (by omega)
            have HLL : Hid _ := hLL
            have hlay := fun wz => rlay_in X xs hbl hxs.1 s.toNat (by omega) wz
            rw [show ((s.toNat : Nat) : Int) = s by omega] at hlay
            have HLY : Hid _ := hlay
            clear hput hb hrw hbl hxs hLL hlay r0 r1 r2
            go_upto_region 9 with fail
            refine wp_region_last (S := LayS w w.heap.size g i k m cap X xs v0 v1 s) 16 (by kernel_rfl) (show LayS w w.heap.size g i k m cap X xs v0 v1 s wr.drew from ⟨hLS.a, hLS.y, hLS.x, hLS.c0, hLS.s, hLS.r, hLS.b.drew⟩) fun hS => ?_
            refine wpAnyL_take (i := 0) (v := .agg (bs X)) rfl (by kernel_rfl) (by kernel_rfl) (by kernel_rfl) (by kernel_rfl) (fun _ _ _ h => h) (yields_row (by rfl) 55 (.tmp 5) rfl (w.heap.size + 2) rfl 55 (bs X) (fun w h => h.x) 256 5 Try.underlying55 size55 (by rw [bs_size, HXL.out])) hS ?_
            try simp only [Act.put, nz0, nz1, nz2, nz3, nz4, nz5]
            refine wpAnyL_take (i := 1) (v := .int .i64 (i : Nat)) rfl (by kernel_rfl) (by kernel_rfl) (by kernel_rfl) (by kernel_rfl) (fun _ _ _ h => h) (Or.inl ⟨by rfl, fun w _ => by rfl⟩) hS ?_
            try simp only [Act.put, nz0, nz1, nz2, nz3, nz4, nz5]
            refine wpAnyL_take (i := 2) (v := .pointer (some ⟨w.heap.size, i, none⟩)) rfl (by kernel_rfl) (by kernel_rfl) (by kernel_rfl) (by kernel_rfl) (fun _ _ _ h => h) (Or.inl ⟨by rfl, fun w _ => by go_simp⟩) hS ?_
            try simp only [Act.put, nz0, nz1, nz2, nz3, nz4, nz5]
            refine wpAnyL_take (i := 3) (v := .slice (some ⟨g, 0, none⟩) m cap) rfl (by kernel_rfl) (by kernel_rfl) (by kernel_rfl) (by kernel_rfl) (fun _ _ _ h => h) (Or.inl ⟨by rfl, fun w h => by have c := h.c0; go_simp⟩) hS ?_
            try simp only [Act.put, nz0, nz1, nz2, nz3, nz4, nz5]
            refine wpAnyL_take (i := 4) (v := .int .i64 (k : Nat)) rfl (by kernel_rfl) (by kernel_rfl) (by kernel_rfl) (by kernel_rfl) (fun _ _ _ h => h) (Or.inl ⟨by rfl, fun w _ => by rfl⟩) hS ?_
            try simp only [Act.put, nz0, nz1, nz2, nz3, nz4, nz5]
            refine wpAnyL_take (i := 5) (v := .pointer (some ⟨g, k * 66, none⟩)) rfl (by kernel_rfl) (by kernel_rfl) (by kernel_rfl) (by kernel_rfl) (fun _ _ _ h => h) (Or.inl ⟨by rfl, fun w _ => by go_simp⟩) hS ?_
            try simp only [Act.put, nz0, nz1, nz2, nz3, nz4, nz5]
            refine wpAnyL_take (i := 6) (v := .pointer (some ⟨g, k * 66 + 1, none⟩)) rfl (by kernel_rfl) (by kernel_rfl) (by kernel_rfl) (by kernel_rfl) (fun _ _ _ h => h) (Or.inl ⟨by rfl, fun w _ => by go_simp⟩) hS ?_
            try simp only [Act.put, nz0, nz1, nz2, nz3, nz4, nz5]
            refine wpAnyL_take (i := 7) (v := .int .i64 s) rfl (by kernel_rfl) (by kernel_rfl) (by kernel_rfl) (by kernel_rfl) (fun _ _ _ h => h) (Or.inl ⟨by rfl, fun w h => by have c := h.s; go_simp⟩) hS ?_
            try simp only [Act.put, nz0, nz1, nz2, nz3, nz4, nz5]
            refine wpAnyL_take (i := 8) (v := .int .i64 (i : Nat)) rfl (by kernel_rfl) (by kernel_rfl) (by kernel_rfl) (by kernel_rfl) (fun _ _ _ h => h) (Or.inl ⟨by rfl, fun w _ => by rfl⟩) hS ?_
            try simp only [Act.put, nz0, nz1, nz2, nz3, nz4, nz5]
            refine wpAnyL_take (i := 9) (v := .pointer (some ⟨w.heap.size, i, none⟩)) rfl (by kernel_rfl) (by kernel_rfl) (by kernel_rfl) (by kernel_rfl) (fun _ _ _ h => h) (Or.inl ⟨by rfl, fun w _ => by go_simp⟩) hS ?_
            try simp only [Act.put, nz0, nz1, nz2, nz3, nz4, nz5]
            refine wpAnyL_take (i := 10) (v := .slice (some ⟨g, 0, none⟩) m cap) rfl (by kernel_rfl) (by kernel_rfl) (by kernel_rfl) (by kernel_rfl) (fun _ _ _ h => h) (Or.inl ⟨by rfl, fun w h => by have c := h.c0; go_simp⟩) hS ?_
            try simp only [Act.put, nz0, nz1, nz2, nz3, nz4, nz5]
            refine wpAnyL_take (i := 11) (v := .int .i64 (k : Nat)) rfl (by kernel_rfl) (by kernel_rfl) (by kernel_rfl) (by kernel_rfl) (fun _ _ _ h => h) (Or.inl ⟨by rfl, fun w _ => by rfl⟩) hS ?_
            try simp only [Act.put, nz0, nz1, nz2, nz3, nz4, nz5]
            refine wpAnyL_take (i := 12) (v := .pointer (some ⟨g, k * 66, none⟩)) rfl (by kernel_rfl) (by kernel_rfl) (by kernel_rfl) (by kernel_rfl) (fun _ _ _ h => h) (Or.inl ⟨by rfl, fun w _ => by go_simp⟩) hS ?_
            try simp only [Act.put, nz0, nz1, nz2, nz3, nz4, nz5]
            refine wpAnyL_take (i := 13) (v := .pointer (some ⟨g, k * 66 + 2, none⟩)) rfl (by kernel_rfl) (by kernel_rfl) (by kernel_rfl) (by kernel_rfl) (fun _ _ _ h => h) (Or.inl ⟨by rfl, fun w _ => by go_simp⟩) hS ?_
            try simp only [Act.put, nz0, nz1, nz2, nz3, nz4, nz5]
            refine wpAnyL_take (i := 14) (v := .agg (bs xs)) rfl (by kernel_rfl) (by kernel_rfl) (by kernel_rfl) (by kernel_rfl) (fun _ _ _ h => h) (yields_bytes (by rfl) 113 (.tmp 42) rfl g (k * 66 + 2) rfl xs _ (fun w h => h.r) Try.underlying113 rfl (by rw [size113, HSL.out])) hS ?_
            try simp only [Act.put, nz0, nz1, nz2, nz3, nz4, nz5]
            refine wpAnyL_ready (rs := [15]) (by kernel_rfl) (by simp) ?_
            refine AllReadyL.cons rfl (fun K hK => ?_) AllReadyL.nil
            go_simp
            go_at_call 78
            refine (HLY.out _).mono ?_
            rintro e w5 ⟨he, b5⟩
            obtain rfl := he
            have hS5 : LayS w w.heap.size g i k m cap X xs v0 v1 s w5 := ⟨hS.a.below b5 hS.a.lt, hS.y.below b5 hS.y.lt, hS.x.below b5 hS.x.lt, Ck.cell_keep hS.c0 b5, Ck.cell_keep hS.s b5, fun j v hv => Ck.cell_keep (hS.r j v hv) b5, hS.b.trans (b5.mono hS.b.size)⟩
            refine hK.out _ _ (fun _ => hS5) ?_
            try simp only [Act.put, nz0, nz1, nz2, nz3, nz4, nz5]
            refine wpAnyL_ready (rs := [16]) (by kernel_rfl) (by simp) ?_
            refine AllReadyL.cons rfl (fun K hK => step_store rfl 55 (.tmp 5) (.tmp 44) rfl (w.heap.size + 2) (lay X s.toNat xs) rfl rfl 55 _ hS5.x 256 size55 (by rw [bs_size, HXL.out]) HLL.out (hK.out _ _ (fun q => absurd rfl q) ?_)) AllReadyL.nil
            try simp only [Act.put, nz0, nz1, nz2, nz3, nz4, nz5]
            refine wpAnyL_done (by kernel_rfl) ?_ _
            have z0 := hS5.a.other (show w.heap.size ≠ w.heap.size + 2 by omega) (bs (lay X s.toNat xs))
            have z1 := hS5.y.other (show w.heap.size + 1 ≠ w.heap.size + 2 by omega) (bs (lay X s.toNat xs))
            have z2 := hS5.x.set (bs (lay X s.toNat xs))
            have zb := below_setRow hS5.b (show w.heap.size ≤ w.heap.size + 2 by omega) (bs (lay X s.toNat xs))
            go_wp2_with fail
            go_roundw
            case rel => exact ⟨k + 1, by go_num, by omega, z0, z1, by rw [HP.out]; exact z2, zb⟩
            case measure => simp [intOf]; omega
          · rw [if_neg hb] at hput
            have HP : Hid _ := hput
            have hbq : (bl == b) = false := by simpa using hb
            clear hput hrw
            go_wp2_with fail
            go_roundw
            case rel => exact ⟨k + 1, by go_num, by omega, r0, r1, by rw [HP.out]; exact r2, rb⟩
            case measure => simp [intOf]; omega
        · have hkm' : ¬ (k : Int) < (m : Int) := by omega
          have hT : (L i).take k = L i := List.take_of_length_le (by rw [Hm.out]; omega)
          rw [hT, ← HFN.out] at r2
          clear hT
          go_wp2_with fail
          go_roundw
          case rel => exact ⟨i + 1, by go_num, by omega, r0, r1, r2, rb⟩
          case measure => simp [intOf]; omega
    · have hi2' : ¬ (i : Int) < 2 := by omega
      have e2 : i = 2 := by omega
      subst e2
      obtain ⟨X, HX⟩ : ∃ X, Hid ((F 2).block b = X) := ⟨_, rfl⟩
      have hXl : X.length = 256 := by
        rw [← HX.out, HF.out.2.2]
        exact (blk_getD _ (fun j _ => over_get _ (over_get _ none_get _ k0) _ k1 b j) 4 (by omega)).1
      rw [HX.out] at r2
      go_wp2_with (first
        | (refine load_row rfl 55 (.tmp 5) rfl (w.heap.size + 2) rfl 55 (bs X) r2 256 5 Try.underlying55 size55 (by rw [bs_size, hXl]) ?_)
        | (refine store_row rfl 55 (.tmp 4) (.tmp 45) rfl (w.heap.size + 1) X rfl rfl 55 _ r1 256 size55 (by rw [bs_size, zs_length]) hXl ?_))
      refine bodyPost_ret (v := .agg (bs X)) ?_ rfl ⟨by rw [HX.out], below_setRow rb (by omega) _⟩
      exact ret_row (fn := Try.f55) rfl _ _ (w.heap.size + 1) 55 (bs X) 256 5 rfl (r1.set _) Try.underlying55 size55 (by rw [bs_size, hXl])
end Go.Proofs.Ytgnedbagelhcbaa
namespace Go.Proofs.Ytgnedbagelhcbaa
open Go.ChangeShapes Go.WideShapes Go.ChangeAt Go.RowKit
set_option linter.unusedVariables false
set_option linter.unusedSimpArgs false
set_option maxRecDepth 20000
theorem built120 (oa0 oa1 : Option Addr) (n0 cap0 n1 cap1 : Nat) : (Try.prog.built 120 [(0, .slice oa0 n0 cap0), (1, .slice oa1 n1 cap1)]) = some #[.slice oa0 n0 cap0, .slice oa1 n1 cap1] := by kernel_rfl
def RD.seen (R : RD) (b : Int) : List Int := (over (over noneS R.sure) R.pend).block b
def RD.kept (R : RD) (b : Int) : List Int := (over noneS R.sure).block b
theorem seen_len {R : RD} (h0 : ∀ q ∈ R.sure, okW q) (h1 : ∀ q ∈ R.pend, okW q) (b : Int) : (R.seen b).length = 256 := (blk_getD _ (fun j _ => over_get _ (over_get _ none_get _ h0) _ h1 b j) 4 (by omega)).1
theorem kept_len {R : RD} (h0 : ∀ q ∈ R.sure, okW q) (b : Int) : (R.kept b).length = 256 := (blk_getD _ (fun j _ => over_get _ none_get _ h0 b j) 4 (by omega)).1
set_option maxHeartbeats 1000000 in
set_option maxRecDepth 20000 in
theorem rseen_any {w : World} {r : Nat} {R : RD} {vs vp vf : Value} {N : Nat} (h : RDAt w r R vs vp vf N) (b : Int) :
    Calls Try.prog 30 #[.pointer (some ⟨r, 0, none⟩), .int .i64 b] w fun e w' => e = .returned (.agg (bs (R.seen b))) ∧ Below w.heap.size w w' := by
  have hz := zero55
  have hXl := seen_len h.oks h.okp b
  have HAT : Hid (∀ wx, RDAt wx r R vs vp vf N → Calls Try.prog 55 #[.agg #[vs, vp], .int .i64 b] wx fun e w' => e = .returned (.agg (bs (R.seen b))) ∧ Below wx.heap.size wx w') := fun wx hx => rat_any vs vp R.sure R.pend hx.sure hx.pend hx.oks hx.okp (by have := hx.bound; have := hx.big; omega) (by have := hx.bound; have := hx.big; omega) b
  obtain ⟨oa0, cap0, e0⟩ := own_form h.sure
  obtain ⟨oa1, cap1, e1⟩ := own_form h.pend
  obtain ⟨n0, Hn0⟩ : ∃ n, Hid (R.sure.length = n) := ⟨_, rfl⟩
  obtain ⟨n1, Hn1⟩ : ∃ n, Hid (R.pend.length = n) := ⟨_, rfl⟩
  rw [Hn0.out] at e0
  rw [Hn1.out] at e1
  subst e0 e1
  obtain ⟨X, HX⟩ : ∃ X, Hid (R.seen b = X) := ⟨_, rfl⟩
  rw [HX.out] at hXl HAT ⊢
  have a0 : Row (w.alloc (.cells (bs (zs 256)) 55)) w.heap.size (bs (zs 256)) 55 := Row.new _ _ _
  have ab : Below w.heap.size w (w.alloc (.cells (bs (zs 256)) 55)) := (Below.refl _ _).alloc (Nat.le_refl _) _
  have h0 := h.below ab
  go_enter Try.func30, Try.ntmps30
  go_upto_region 1 with fail
  generalize w.alloc (.cells (bs (zs 256)) 55) = w1 at a0 ab h0 ⊢
  refine wp_region_last (S := fun w' => RDAt w' r R (.slice oa0 n0 cap0) (.slice oa1 n1 cap1) vf N ∧ Row w' w.heap.size (bs (zs 256)) 55 ∧ Below w.heap.size w w') 11 (by kernel_rfl) ⟨h0.below (Below.refl _ _).drew, a0, ab.drew⟩ fun hS => ?_
  refine wpAnyL_take (i := 0) (v := .pointer (some ⟨r, 0, none⟩)) rfl (by kernel_rfl) (by kernel_rfl) (by kernel_rfl) (by kernel_rfl) (fun _ _ _ h => h) (Or.inl ⟨by rfl, fun w _ => by rfl⟩) hS ?_
  try simp only [Act.put, nz0, nz1, nz2, nz3, nz4, nz5]
  refine wpAnyL_take (i := 1) (v := .pointer (some ⟨r, 0, none⟩)) rfl (by kernel_rfl) (by kernel_rfl) (by kernel_rfl) (by kernel_rfl) (fun _ _ _ h => h) (Or.inl ⟨by rfl, fun w _ => by go_simp⟩) hS ?_
  try simp only [Act.put, nz0, nz1, nz2, nz3, nz4, nz5]
  refine wpAnyL_take (i := 2) (v := .pointer (some ⟨r, 1, none⟩)) rfl (by kernel_rfl) (by kernel_rfl) (by kernel_rfl) (by kernel_rfl) (fun _ _ _ h => h) (Or.inl ⟨by rfl, fun w _ => by go_simp⟩) hS ?_
  try simp only [Act.put, nz0, nz1, nz2, nz3, nz4, nz5]
  refine wpAnyL_take (i := 3) (v := .slice oa0 n0 cap0) rfl (by kernel_rfl) (by kernel_rfl) (by kernel_rfl) (by kernel_rfl) (fun _ _ _ h => h) (Or.inl ⟨by rfl, fun w h => by have c := row_at h.1.row 1 _ rfl; simp only [rdcells, List.getElem_toArray, List.getElem_cons_zero, List.getElem_cons_succ] at c; go_simp⟩) hS ?_
  try simp only [Act.put, nz0, nz1, nz2, nz3, nz4, nz5]
  refine wpAnyL_take (i := 4) (v := .pointer (some ⟨r, 0, none⟩)) rfl (by kernel_rfl) (by kernel_rfl) (by kernel_rfl) (by kernel_rfl) (fun _ _ _ h => h) (Or.inl ⟨by rfl, fun w _ => by rfl⟩) hS ?_
  try simp only [Act.put, nz0, nz1, nz2, nz3, nz4, nz5]
  refine wpAnyL_take (i := 5) (v := .pointer (some ⟨r, 0, none⟩)) rfl (by kernel_rfl) (by kernel_rfl) (by kernel_rfl) (by kernel_rfl) (fun _ _ _ h => h) (Or.inl ⟨by rfl, fun w _ => by go_simp⟩) hS ?_
  try simp only [Act.put, nz0, nz1, nz2, nz3, nz4, nz5]
  refine wpAnyL_take (i := 6) (v := .pointer (some ⟨r, 2, none⟩)) rfl (by kernel_rfl) (by kernel_rfl) (by kernel_rfl) (by kernel_rfl) (fun _ _ _ h => h) (Or.inl ⟨by rfl, fun w _ => by go_simp⟩) hS ?_
  try simp only [Act.put, nz0, nz1, nz2, nz3, nz4, nz5]
  refine wpAnyL_take (i := 7) (v := .slice oa1 n1 cap1) rfl (by kernel_rfl) (by kernel_rfl) (by kernel_rfl) (by kernel_rfl) (fun _ _ _ h => h) (Or.inl ⟨by rfl, fun w h => by have c := row_at h.1.row 2 _ rfl; simp only [rdcells, List.getElem_toArray, List.getElem_cons_zero, List.getElem_cons_succ] at c; go_simp⟩) hS ?_
  try simp only [Act.put, nz0, nz1, nz2, nz3, nz4, nz5]
  refine wpAnyL_take (i := 8) (v := .agg #[.slice oa0 n0 cap0, .slice oa1 n1 cap1]) rfl (by kernel_rfl) (by kernel_rfl) (by kernel_rfl) (by kernel_rfl) (fun _ _ _ h => h) (yields_build (by rfl) 120 #[(0, .tmp 8), (1, .tmp 12)] rfl [(0, .slice oa0 n0 cap0), (1, .slice oa1 n1 cap1)] (by rfl) _ (built120 _ _ _ _ _ _)) hS ?_
  try simp only [Act.put, nz0, nz1, nz2, nz3, nz4, nz5]
  refine wpAnyL_take (i := 9) (v := .int .i64 b) rfl (by kernel_rfl) (by kernel_rfl) (by kernel_rfl) (by kernel_rfl) (fun _ _ _ h => h) (Or.inl ⟨by rfl, fun w _ => by rfl⟩) hS ?_
  try simp only [Act.put, nz0, nz1, nz2, nz3, nz4, nz5]
  refine wpAnyL_ready (rs := [10]) (by kernel_rfl) (by simp) ?_
  refine AllReadyL.cons rfl (fun K hK => ?_) AllReadyL.nil
  go_simp
  go_at_call 55
  refine (HAT.out _ hS.1).mono ?_
  rintro e w5 ⟨he, b5⟩
  obtain rfl := he
  have hS5 : RDAt w5 r R (.slice oa0 n0 cap0) (.slice oa1 n1 cap1) vf N ∧ Row w5 w.heap.size (bs (zs 256)) 55 ∧ Below w.heap.size w w5 := ⟨hS.1.below b5, hS.2.1.below b5 hS.2.1.lt, hS.2.2.trans (b5.mono hS.2.2.size)⟩
  refine hK.out _ _ (fun _ => hS5) ?_
  try simp only [Act.put, nz0, nz1, nz2, nz3, nz4, nz5]
  refine wpAnyL_ready (rs := [11]) (by kernel_rfl) (by simp) ?_
  refine AllReadyL.cons rfl (fun K hK => step_store rfl 55 (.tmp 4) (.tmp 15) rfl w.heap.size X rfl rfl 55 _ hS5.2.1 256 size55 (by rw [bs_size, zs_length]) hXl (hK.out _ _ (fun q => absurd rfl q) ?_)) AllReadyL.nil
  try simp only [Act.put, nz0, nz1, nz2, nz3, nz4, nz5]
  refine wpAnyL_done (by kernel_rfl) ?_ _
  go_wp2_with fail
  refine bodyPost_ret (v := .agg (bs X)) ?_ rfl ⟨rfl, below_setRow hS5.2.2 (Nat.le_refl _) _⟩
  exact ret_row (fn := Try.f30) rfl _ _ w.heap.size 55 (bs X) 256 5 rfl (hS5.2.1.set _) Try.underlying55 size55 (by rw [bs_size, hXl])
set_option maxRecDepth 20000 in
theorem rkept_any {w : World} {r : Nat} {R : RD} {vs vp vf : Value} {N : Nat} (h : RDAt w r R vs vp vf N) (b : Int) :
    Calls Try.prog 32 #[.pointer (some ⟨r, 0, none⟩), .int .i64 b] w fun e w' => e = .returned (.agg (bs (R.kept b))) ∧ Below w.heap.size w w' := by
  have hz := zero55
  have hXl := kept_len h.oks b
  have HAT : Hid (∀ wx, RDAt wx r R vs vp vf N → Calls Try.prog 55 #[.agg #[vs, .slice none 0 0], .int .i64 b] wx fun e w' => e = .returned (.agg (bs (R.kept b))) ∧ Below wx.heap.size wx w') := fun wx hx => rat_any vs (.slice none 0 0) R.sure [] hx.sure (World.ownsRow_nil _ _ _ _) hx.oks (fun q hq => by cases hq) (by have := hx.bound; have := hx.big; omega) (by simp) b
  obtain ⟨oa0, cap0, e0⟩ := own_form h.sure
  obtain ⟨n0, Hn0⟩ : ∃ n, Hid (R.sure.length = n) := ⟨_, rfl⟩
  rw [Hn0.out] at e0
  subst e0
  obtain ⟨X, HX⟩ : ∃ X, Hid (R.kept b = X) := ⟨_, rfl⟩
  rw [HX.out] at hXl HAT ⊢
  have a0 : Row (w.alloc (.cells (bs (zs 256)) 55)) w.heap.size (bs (zs 256)) 55 := Row.new _ _ _
  have ab : Below w.heap.size w (w.alloc (.cells (bs (zs 256)) 55)) := (Below.refl _ _).alloc (Nat.le_refl _) _
  have h0 := h.below ab
  have c1 : (w.alloc (.cells (bs (zs 256)) 55)).cell? ⟨r, 1, none⟩ = some (.slice oa0 n0 cap0) := row_at h0.row 1 _ rfl
  have hat := HAT.out _ h0
  go_enter Try.func32, Try.ntmps32
  go_wp2_with (first
    | (go_at_call 55; refine hat.mono ?_; clear hat; rintro e w5 ⟨he, b5⟩; obtain rfl := he; have r5 := a0.below b5 a0.lt)
    | (refine store_row rfl 55 (.tmp 4) (.tmp 11) rfl w.heap.size X rfl rfl 55 _ r5 256 size55 (by rw [bs_size, zs_length]) hXl ?_))
  have B5 := ab.trans (b5.mono ab.size)
  refine bodyPost_ret (v := .agg (bs X)) ?_ rfl ⟨rfl, below_setRow B5 (Nat.le_refl _) _⟩
  exact ret_row (fn := Try.f32) rfl _ _ w.heap.size 55 (bs X) 256 5 rfl (r5.set _) Try.underlying55 size55 (by rw [bs_size, hXl])
end Go.Proofs.Ytgnedbagelhcbaa
namespace Go.Proofs.Ytgnedbagelhcbaa
open Go.ChangeShapes Go.WideShapes Go.ChangeAt Go.RowKit
set_option linter.unusedVariables false
set_option linter.unusedSimpArgs false
set_option maxRecDepth 20000
theorem info146 : (Try.prog.info? 146).map (fun i => (i.zero, i.size, i.bytes)) = some (some (.agg (wcells 0 0 (zs 64))), 66, 80) := by kernel_rfl
theorem pcells_append (l m : List (Int × Int × List Int)) : pcells (l ++ m) = pcells l ++ pcells m := by simp [pcells]
theorem pcells_len (l : List (Int × Int × List Int)) (h : ∀ q ∈ l, okW q) : (pcells l).length = l.length * 66 := by
  induction l with
  | nil => rfl
  | cons q r ih =>
    show (pcell q ++ pcells r).length = _
    rw [List.length_append, ih (fun q hq => h q (by simp [hq]))]
    simp [pcell, (h q (by simp)).2.2.1]; omega
theorem pcells_one (l : List (Int × Int × List Int)) : ∀ u ∈ pcells l, u.oneCell' = true := fun u hu => by
  unfold pcells at hu
  obtain ⟨q, _, hq⟩ := List.mem_flatMap.1 hu
  exact pcell_one q u hq
theorem run_join {w : World} {vs vp : Value} {l m : List (Int × Int × List Int)} (h0 : w.ownsRow 0 146 66 vs l.length (pcells l)) (h1 : w.ownsRow 0 146 66 vp m.length (pcells m)) (hm : ∀ q ∈ m, okW q) (hb : l.length + m.length < 1000000000) (ty : TypeId) :
    ∃ v' w', (Builtin.append_ #[29, 29] ty #[vs, vp]).run Try.prog w = .ok v' w' ∧ (w'.ownsRow 0 146 66 v' (l ++ m).length (pcells (l ++ m)) ∧ w.grownBy w' vs.ownBlock ∧ (v'.ownBlock = vs.ownBlock ∨ v'.ownBlock = some w.heap.size)) := by
  obtain ⟨i, hi, hz, hs, hby⟩ := info_parts info146
  rcases h1.2 with ⟨rfl, h0m⟩ | ⟨g, cap, cur, rfl, _, hr, _, _, _, ht⟩
  · have hm0 : m = [] := List.eq_nil_of_length_eq_zero h0m
    subst hm0
    refine ⟨_, _, run_append_owned_none (P := Try.prog) (w := w) 0 29 ty 146 i 66 Try.underlying29 hi vs l.length (pcells l) h0, ?_⟩
    rw [List.append_nil]
    exact ⟨h0, ⟨rfl, rfl, rfl, Nat.le_refl _, fun _ _ _ => rfl⟩, Or.inl rfl⟩
  · obtain ⟨v', w', hrun, h2, h3, _, h5⟩ := run_append_own_at (P := Try.prog) w 0 29 ty 146 i _ 66 80 Try.underlying29 hi hz hs hby (wcells_size _ _ _ (zs_length 64)) (by decide) vs l.length (pcells l) h0 ⟨g, 0, none⟩ m.length cap (pcells m) (pcells_len m hm) (fun j u hj => by
      rw [Addr.add_mid, Nat.zero_add]
      refine row_at (cs := cur) (t := 146) hr j _ ?_
      rw [← ht, List.getElem?_take] at hj
      split at hj
      · simpa using hj
      · cases hj) (pcells_one m) (by unfold maxLen; omega) (by omega) (Nat.zero_le _)
    exact ⟨v', w', hrun, by rw [List.length_append, pcells_append]; exact h2, h3, h5⟩
def rplan (R : RD) (zl : List Int) (f : Int) : RD := { R with fails := zl, fuse := f, ops := 0 }
def RPlanned (w : World) (r : Nat) (R : RD) (vs vp : Value) (N : Nat) (zl : List Int) (f : Int) (e : Ending) (w' : World) : Prop := e = .returned (.tuple #[]) ∧ ∃ vf', RDAt w' r (rplan R zl f) vs vp vf' N ∧ Off (· = r) w w' ∧ ∀ j, vf'.ownBlock = some j → w.heap.size ≤ j
theorem run_copyO (w : World) (zl : List Int) (v : Value) (h : Cel w v (zl.map (.int .i64))) (h63 : zl.length * 8 ≤ 140737488355328) (ty : TypeId) :
    ∃ v' w', (Builtin.append_ #[30, 30] ty #[.slice (some ⟨w.heap.size, 0, none⟩) 0 0, v]).run Try.prog (w.alloc (.cells #[] 3)) = .ok v' w' ∧ (w'.ownsRow w.heap.size 3 1 v' zl.length (zl.map (.int .i64)) ∧ Below w.heap.size w w') := by
  obtain ⟨i, hi, hz, hs, hby⟩ := info_parts info3
  have hown : (w.alloc (.cells #[] 3)).ownsRow w.heap.size 3 1 (.slice (some ⟨w.heap.size, 0, none⟩) 0 0) 0 [] := World.ownsRow_made w #[] 0 (Nat.le_refl _) (Nat.zero_le _) rfl
  have b0 : Below w.heap.size w (w.alloc (.cells #[] 3)) := (Below.refl _ _).alloc (Nat.le_refl _) _
  rcases h with ⟨rfl, hzl⟩ | ⟨a, cap, rfl, hc⟩
  · have : zl = [] := by simpa using hzl
    subst this
    exact ⟨_, _, run_append_owned_none (P := Try.prog) (w := w.alloc (.cells #[] 3)) w.heap.size 30 ty 3 i 1 Try.underlying30 hi _ 0 [] hown, hown, b0⟩
  · obtain ⟨v', w', hr, h2, h3, h4, h5⟩ := run_append_own_at (P := Try.prog) (w.alloc (.cells #[] 3)) w.heap.size 30 ty 3 i _ 1 8 Try.underlying30 hi hz hs hby rfl (by decide) _ 0 [] hown a (zl.map (Value.int .i64)).length cap (zl.map (Value.int .i64)) (by simp) (fun j u hj => Ck.cell_keep (hc j u hj) b0) (by intro u hu; obtain ⟨z, _, rfl⟩ := List.mem_map.1 hu; rfl) (by rw [List.length_map]; unfold maxLen; omega) (by rw [List.length_map, Nat.zero_add]; exact h63) (by simp)
    refine ⟨v', w', hr, ?_, b0.grown h3 (by simp) (fun k hk => ?_)⟩
    · simp only [List.nil_append, Nat.zero_add, List.length_map] at h2; exact h2
    · simp [Value.ownBlock] at hk
      omega
theorem own_low {w : World} {base : Nat} {e : TypeId} {s : Nat} {v : Value} {n : Nat} {xs : List Value} (h : w.ownsRow base e s v n xs) : w.ownsRow 0 e s v n xs := by
  obtain ⟨h1, h2⟩ := h
  refine ⟨h1, ?_⟩
  rcases h2 with h2 | ⟨g, cap, cur, e1, _, rest⟩
  · exact Or.inl h2
  · exact Or.inr ⟨g, cap, cur, e1, Nat.zero_le _, rest⟩
theorem rplan_any {w : World} {r : Nat} {R : RD} {vs vp vf : Value} {N : Nat} (h : RDAt w r R vs vp vf N) (v : Value) (zl : List Int) (hv : Cel w v (zl.map (.int .i64))) (h63 : zl.length * 8 ≤ 140737488355328) (f : Int) (hf : Wf f) :
    Calls Try.prog 22 #[.pointer (some ⟨r, 0, none⟩), v, .int .i64 f] w fun e w' => RPlanned w r R vs vp N zl f e w' := by
  have HR : Hid _ := fun ty => run_copyO w zl v hv h63 ty
  have hrl := h.row.lt
  go_enter Try.func22, Try.ntmps22
  go_wp2_with (first
    | (at_builtin; refine wpList_copy rfl (.tmp 7) (.tmp 8) 30 rfl _ _ rfl rfl (T := fun v' w' => w'.ownsRow w.heap.size 3 1 v' zl.length (zl.map (.int .i64)) ∧ Below w.heap.size w w') (fun ty => HR.out ty) ?_; intro v' w2 hT; obtain ⟨oa, cap, hv2⟩ := own_form hT.1; subst hv2
       have h2 := h.below hT.2
       have c3 := row_at h2.row 3 _ rfl
       have f3 := row_frozen h2.row 3
       have q3 := row_set h2.row 3 (.slice oa zl.length cap)
       have c4 := row_at q3 4 _ rfl
       have f4 := row_frozen q3 4
       have q4 := row_set q3 4 (.int .i64 f)
       have c5 := row_at q4 5 _ rfl
       have f5 := row_frozen q4 5))
  have q5 := row_set q4 5 (.int .i64 0)
  have ofs : Off (· = r) w2 (((w2.setCell ⟨r, 3, none⟩ (.slice oa zl.length cap)).setCell ⟨r, 4, none⟩ (.int .i64 f)).setCell ⟨r, 5, none⟩ (.int .i64 0)) := ((Off.of_setCell (F := (· = r)) _ _ _ rfl).trans (Off.of_setCell (F := (· = r)) _ _ _ rfl) (fun _ q => Or.inl q)).trans (Off.of_setCell (F := (· = r)) _ _ _ rfl) (fun _ q => Or.inl q)
  have hnew : ∀ j, (Value.slice oa zl.length cap).ownBlock = some j → w.heap.size ≤ j := fun j e => (World.ownsRow.lt hT.1 j e).1
  have hD : RDAt (((w2.setCell ⟨r, 3, none⟩ (.slice oa zl.length cap)).setCell ⟨r, 4, none⟩ (.int .i64 f)).setCell ⟨r, 5, none⟩ (.int .i64 0)) r (rplan R zl f) vs vp (.slice oa zl.length cap) N :=
    ⟨q5, own_off h2.sure ofs (fun k e q => h.sr (q ▸ e)), own_off h2.pend ofs (fun k e q => h.pr (q ▸ e)), own_off (own_low hT.1) ofs (fun k e q => by have := hnew k e; omega), h.sp,
     fun k e e2 => by have := hnew k e2; have := (h.sure.lt k e).2; omega, fun k e e2 => by have := hnew k e2; have := (h.pend.lt k e).2; omega, h.sr, h.pr, fun e => by have := hnew r e; omega,
     h.oks, h.okp, h.bound, h.big, by show zl.length ≤ _; omega, by show (0 : Int) ≤ 0; omega, hf⟩
  have oo := (Off.of_below (F := (· = r)) hT.2).trans ofs (fun _ q => Or.inl q)
  first
    | (go_end0; exact ⟨rfl, _, hD, oo, hnew⟩)
    | (refine bodyPost_ret (results_none rfl _ _ _) rfl ?_; exact ⟨rfl, _, hD, oo, hnew⟩)
def rsync (R : RD) : Int × RD := if R.down then (4, R) else if (rcount R).1 = 0 then (0, { (rcount R).2 with sure := (rcount R).2.sure ++ (rcount R).2.pend, pend := [] }) else (rcount R)
set_option maxHeartbeats 1000000 in
set_option maxRecDepth 20000 in
theorem rsync_any {w : World} {r : Nat} {R : RD} {vs vp vf : Value} {N : Nat} (h : RDAt w r R vs vp vf N) (ho : R.ops < 9223372036854775806) :
    Calls Try.prog 76 #[.pointer (some ⟨r, 0, none⟩)] w fun e w' => e = .returned (.int .i64 (rsync R).1) ∧ RStep w r vs vp vf (rsync R).2 N w' := by
  obtain ⟨PP, HP⟩ : ∃ P : Ending → World → Prop, Hid (P = fun e w' => e = .returned (.int .i64 (rsync R).1) ∧ RStep w r vs vp vf (rsync R).2 N w') := ⟨_, rfl⟩
  rw [show (fun e w' => e = .returned (.int .i64 (rsync R).1) ∧ RStep w r vs vp vf (rsync R).2 N w') = PP from HP.out.symm]
  have HRT : Hid (∀ (E : Int) (R' : RD) (w' : World), rsync R = (E, R') → RStep w r vs vp vf R' N w' → PP (.returned (.int .i64 E)) w') := fun E R' w' q1 q2 => by
    rw [HP.out, q1]; exact ⟨rfl, q2⟩
  clear HP
  have c6 : w.cell? ⟨r, 6, none⟩ = some (.bool R.down) := row_at h.row 6 _ rfl
  have plain : ∀ {R' : RD} {w' : World}, RDAt w' r R' vs vp vf N → Off (· = r) w w' → RStep w r vs vp vf R' N w' := fun q1 q2 => ⟨vs, vp, vf, q1, q2.mono (fun j q => Or.inl (Or.inl q)), fun j q => Or.inl q⟩
  by_cases hd : R.down = true
  · rw [hd] at c6
    have HRR : Hid (PP (.returned (.int .i64 4)) w) := HRT.out 4 R w (by unfold rsync; rw [if_pos hd]) (plain h (Off.refl _ _))
    clear hd
    go_enter Try.func76, Try.ntmps76
    go_wp2_with fail
    try go_ret
    exact HRR.out
  · have hd' : R.down = false := by simpa using hd
    rw [hd'] at c6
    have hr : rsync R = if (rcount R).1 = 0 then (0, { (rcount R).2 with sure := (rcount R).2.sure ++ (rcount R).2.pend, pend := [] }) else (rcount R) := by unfold rsync; rw [if_neg hd]
    have hop := rop_any h ho
    generalize rcount R = rc at hop hr
    obtain ⟨E, R'⟩ := rc
    simp only at hop hr
    clear hd hd'
    by_cases hE : E = 0
    · rw [if_pos hE] at hr
      subst hE
      have HRR : Hid _ := hr
      clear hr
      go_enter Try.func76, Try.ntmps76
      go_upto_region 6 with (first
        | (go_at_call 90; refine hop.mono ?_; clear hop; rintro e w2 ⟨he, D2, o2⟩; obtain rfl := he))
      obtain ⟨oa0, cap0, e0⟩ := own_form D2.sure
      obtain ⟨oa1, cap1, e1⟩ := own_form D2.pend
      obtain ⟨n0, Hn0⟩ : ∃ n, Hid (R'.sure.length = n) := ⟨_, rfl⟩
      obtain ⟨n1, Hn1⟩ : ∃ n, Hid (R'.pend.length = n) := ⟨_, rfl⟩
      rw [Hn0.out] at e0
      rw [Hn1.out] at e1
      subst e0 e1
      refine wp_region_last (S := fun w' => Row w' r (rdcells R' (.slice oa0 n0 cap0) (.slice oa1 n1 cap1) vf) 32) 12 (by kernel_rfl) D2.row fun hS => ?_
      refine wpAnyL_take (i := 0) (v := .pointer (some ⟨r, 0, none⟩)) rfl (by kernel_rfl) (by kernel_rfl) (by kernel_rfl) (by kernel_rfl) (fun _ _ _ h => h) (Or.inl ⟨by rfl, fun w _ => by rfl⟩) hS ?_
      try simp only [Act.put, nz0, nz1, nz2, nz3, nz4, nz5]
      refine wpAnyL_take (i := 1) (v := .pointer (some ⟨r, 0, none⟩)) rfl (by kernel_rfl) (by kernel_rfl) (by kernel_rfl) (by kernel_rfl) (fun _ _ _ h => h) (Or.inl ⟨by rfl, fun w _ => by rfl⟩) hS ?_
      try simp only [Act.put, nz0, nz1, nz2, nz3, nz4, nz5]
      refine wpAnyL_take (i := 2) (v := .pointer (some ⟨r, 0, none⟩)) rfl (by kernel_rfl) (by kernel_rfl) (by kernel_rfl) (by kernel_rfl) (fun _ _ _ h => h) (Or.inl ⟨by rfl, fun w _ => by go_simp⟩) hS ?_
      try simp only [Act.put, nz0, nz1, nz2, nz3, nz4, nz5]
      refine wpAnyL_take (i := 3) (v := .pointer (some ⟨r, 1, none⟩)) rfl (by kernel_rfl) (by kernel_rfl) (by kernel_rfl) (by kernel_rfl) (fun _ _ _ h => h) (Or.inl ⟨by rfl, fun w _ => by go_simp⟩) hS ?_
      try simp only [Act.put, nz0, nz1, nz2, nz3, nz4, nz5]
      refine wpAnyL_take (i := 4) (v := .slice oa0 n0 cap0) rfl (by kernel_rfl) (by kernel_rfl) (by kernel_rfl) (by kernel_rfl) (fun _ _ _ h => h) (Or.inl ⟨by rfl, fun w h => by have c := row_at h 1 _ rfl; simp only [rdcells, List.getElem_toArray, List.getElem_cons_zero, List.getElem_cons_succ] at c; go_simp⟩) hS ?_
      try simp only [Act.put, nz0, nz1, nz2, nz3, nz4, nz5]
      refine wpAnyL_take (i := 5) (v := .pointer (some ⟨r, 0, none⟩)) rfl (by kernel_rfl) (by kernel_rfl) (by kernel_rfl) (by kernel_rfl) (fun _ _ _ h => h) (Or.inl ⟨by rfl, fun w _ => by rfl⟩) hS ?_
      try simp only [Act.put, nz0, nz1, nz2, nz3, nz4, nz5]
      refine wpAnyL_take (i := 6) (v := .pointer (some ⟨r, 0, none⟩)) rfl (by kernel_rfl) (by kernel_rfl) (by kernel_rfl) (by kernel_rfl) (fun _ _ _ h => h) (Or.inl ⟨by rfl, fun w _ => by go_simp⟩) hS ?_
      try simp only [Act.put, nz0, nz1, nz2, nz3, nz4, nz5]
      refine wpAnyL_take (i := 7) (v := .pointer (some ⟨r, 2, none⟩)) rfl (by kernel_rfl) (by kernel_rfl) (by kernel_rfl) (by kernel_rfl) (fun _ _ _ h => h) (Or.inl ⟨by rfl, fun w _ => by go_simp⟩) hS ?_
      try simp only [Act.put, nz0, nz1, nz2, nz3, nz4, nz5]
      refine wpAnyL_take (i := 8) (v := .slice oa1 n1 cap1) rfl (by kernel_rfl) (by kernel_rfl) (by kernel_rfl) (by kernel_rfl) (fun _ _ _ h => h) (Or.inl ⟨by rfl, fun w h => by have c := row_at h 2 _ rfl; simp only [rdcells, List.getElem_toArray, List.getElem_cons_zero, List.getElem_cons_succ] at c; go_simp⟩) hS ?_
      try simp only [Act.put, nz0, nz1, nz2, nz3, nz4, nz5]
      have hS0 := D2.below (Below.refl _ w2).drew
      have HRJ : Hid _ := fun ty => run_join hS0.sure hS0.pend hS0.okp (by have := hS0.bound; have := hS0.big; omega) ty
      refine wpAnyL_ready (rs := [9]) (by kernel_rfl) (by simp) ?_
      refine AllReadyL.cons rfl (fun K hK => step_of rfl (wp_copy (.tmp 17) (.tmp 21) 29 rfl _ _ rfl rfl (fun ty => HRJ.out ty) ?_)) AllReadyL.nil
      rintro v9 w9 ⟨own9, gr9, ob9⟩
      have og : Off (fun k => (Value.slice oa0 n0 cap0).ownBlock = some k) w2.drew w9 := Off.of_grown gr9 (fun k e => e)
      have r9 := hS0.row.off og hS0.sr
      have f9 := own_off hS0.fails og (fun k e e2 => hS0.sf k e2 e)
      obtain ⟨oa9, cap9, hv9⟩ := own_form own9
      obtain ⟨n9, Hn9⟩ : ∃ n, Hid ((R'.sure ++ R'.pend).length = n) := ⟨_, rfl⟩
      rw [Hn9.out] at hv9
      subst hv9
      have q1 := row_set r9 1 (.slice oa9 n9 cap9)
      have q2 := row_set q1 2 (.slice none 0 0)
      have s1 : w9.cell? ⟨r, 1, none⟩ = some (.slice oa0 n0 cap0) := row_at r9 1 _ rfl
      have t1 := row_frozen r9 1
      have s2 : (w9.setCell ⟨r, 1, none⟩ (.slice oa9 n9 cap9)).cell? ⟨r, 2, none⟩ = some (.slice oa1 n1 cap1) := row_at q1 2 _ rfl
      have t2 := row_frozen q1 2
      have hne : ∀ k, (Value.slice oa9 n9 cap9).ownBlock = some k → k ≠ r ∧ vf.ownBlock ≠ some k ∧ ((Value.slice oa0 n0 cap0).ownBlock = some k ∨ w2.heap.size ≤ k) := fun k e => by
        rcases ob9 with q | q
        · rw [q] at e
          exact ⟨fun e2 => hS0.sr (e2 ▸ e), hS0.sf k e, Or.inl e⟩
        · rw [q] at e
          cases e
          exact ⟨fun e2 => by have := D2.row.lt; simp at e2; omega, fun e2 => by have := (D2.fails.lt _ e2).2; simp at this, Or.inr (by simp)⟩
      have ofs : Off (· = r) w9 ((w9.setCell ⟨r, 1, none⟩ (.slice oa9 n9 cap9)).setCell ⟨r, 2, none⟩ (.slice none 0 0)) := (Off.of_setCell (F := (· = r)) _ _ _ rfl).trans (Off.of_setCell (F := (· = r)) _ _ _ rfl) (fun _ q => Or.inl q)
      have hall : ∀ q ∈ R'.sure ++ R'.pend, okW q := fun q hq => by
        rcases List.mem_append.1 hq with c | c
        · exact hS0.oks q c
        · exact hS0.okp q c
      have hbd : (R'.sure ++ R'.pend).length + 0 ≤ N := by rw [List.length_append]; exact hS0.bound
      have hD : RDAt ((w9.setCell ⟨r, 1, none⟩ (.slice oa9 n9 cap9)).setCell ⟨r, 2, none⟩ (.slice none 0 0)) r { R' with sure := R'.sure ++ R'.pend, pend := [] } (.slice oa9 n9 cap9) (.slice none 0 0) vf N :=
        ⟨q2, own_off own9 ofs (fun k e q => (hne k e).1 q), World.ownsRow_nil _ _ _ _, own_off f9 ofs (fun k e q => hS0.fr (q ▸ e)), (fun k e e2 => by cases e2), (fun k e => (hne k e).2.1), (fun k e => by cases e), (fun e => (hne r e).1 rfl), (fun e => by cases e), hS0.fr, hall, (fun q hq => by cases hq), hbd, hS0.big, hS0.fbig, hS0.opsn, hS0.fusew⟩
      have hO : Off (rfoot r (.slice oa0 n0 cap0) (.slice oa1 n1 cap1) vf) w ((w9.setCell ⟨r, 1, none⟩ (.slice oa9 n9 cap9)).setCell ⟨r, 2, none⟩ (.slice none 0 0)) :=
        (((o2.mono (fun j q => Or.inl (Or.inl q))).drew).trans og (fun j q => Or.inl (Or.inr (Or.inl q)))).trans ofs (fun j q => Or.inl (Or.inl q))
      have hFT : ∀ j, rfoot r (.slice oa9 n9 cap9) (.slice none 0 0) vf j → rfoot r (.slice oa0 n0 cap0) (.slice oa1 n1 cap1) vf j ∨ w.heap.size ≤ j := fun j q => by
        rcases q with q | q | q | q
        · exact Or.inl (Or.inl q)
        · rcases (hne j q).2.2 with c | c
          · exact Or.inl (Or.inr (Or.inl c))
          · exact Or.inr (Nat.le_trans o2.size c)
        · cases q
        · exact Or.inl (Or.inr (Or.inr (Or.inr q)))
      have HFIN : Hid _ := HRT.out _ _ _ HRR.out ⟨_, _, _, hD, hO, hFT⟩
      clear hD hO hFT ofs hne q2 own9 HRJ f9
      refine hK.out _ _ (fun _ => r9) ?_
      try simp only [Act.put, nz0, nz1, nz2, nz3, nz4, nz5]
      refine wpAnyL_ready (rs := [10]) (by kernel_rfl) (by simp) ?_
      refine AllReadyL.cons rfl (fun K hK => ?_) AllReadyL.nil
      go_simp
      refine hK.out _ _ (fun _ => r9) ?_
      try simp only [Act.put, nz0, nz1, nz2, nz3, nz4, nz5]
      have hS := r9
      refine wpAnyL_take (i := 11) (v := .pointer (some ⟨r, 1, none⟩)) rfl (by kernel_rfl) (by kernel_rfl) (by kernel_rfl) (by kernel_rfl) (fun _ _ _ h => h) (Or.inl ⟨by rfl, fun w _ => by go_simp⟩) hS ?_
      try simp only [Act.put, nz0, nz1, nz2, nz3, nz4, nz5]
      refine wpAnyL_ready (rs := [12]) (by kernel_rfl) (by simp) ?_
      refine AllReadyL.cons rfl (fun K hK => ?_) AllReadyL.nil
      go_simp
      refine hK.out _ _ (fun q => absurd rfl q) ?_
      try simp only [Act.put, nz0, nz1, nz2, nz3, nz4, nz5]
      refine wpAnyL_done (by kernel_rfl) ?_ _
      go_wp2_with fail
      try go_ret
      exact HFIN.out
    · rw [if_neg hE] at hr
      have hEq : (E == 0) = false := by simpa using hE
      have HRR : Hid _ := hr
      clear hr
      go_enter Try.func76, Try.ntmps76
      go_wp2_with (first
        | (go_at_call 90; refine hop.mono ?_; clear hop; rintro e w2 ⟨he, D2, o2⟩; obtain rfl := he))
      try go_ret
      exact HRT.out _ _ _ HRR.out (plain D2 o2)
end Go.Proofs.Ytgnedbagelhcbaa
namespace Go.Proofs.Ytgnedbagelhcbaa
open Go.ChangeShapes Go.WideShapes Go.ChangeAt Go.RowKit
set_option linter.unusedVariables false
set_option linter.unusedSimpArgs false
set_option maxRecDepth 20000
theorem bytes146 : ∃ i, Try.prog.info? 146 = some i ∧ i.zero = some (.agg (wcells 0 0 (zs 64))) ∧ i.size = 66 ∧ i.bytes = 80 := info_parts info146
theorem wp_slice_one69 {o : Oper} {a : Act} {w : World} {K : Act → World → Prop} {Q : Exit → Act → World → Prop} (x : Operand) (ho : o.op = .buildSlice 29 1 #[(0, x)]) (b s : Int) (xs : List Int) (hl : xs.length = 64) (hx : a.eval x = .agg (wcells b s xs))
    (h : K (a.put o.dst (.slice (some ⟨w.heap.size, 0, none⟩) 1 1)) (w.alloc (.cells (wcells b s xs) 146))) : Oper.wp Try.prog o a w K Q := by
  obtain ⟨i, hi, hz, hs, _⟩ := bytes146
  refine wp_buildSlice 29 146 1 _ ho (wcells b s xs) i _ Try.underlying29 hi hz (by rw [hs]; decide) (by rw [hs]; decide) ?_ h
  have e1 : (#[(0, x)].map fun (i, x) => (i, a.eval x)).toList = [(0, .agg (wcells b s xs))] := by simp [hx]
  rw [e1, fill_step _ _ 0 (.agg (wcells b s xs)) _ 0 66 (by simp [hs]) (wcells_size b s xs hl) (by simp [hs])]
  unfold Instr.fill
  congr 1
  show (⟨splice _ 0 (wcells b s xs).toList⟩ : Array Value) = wcells b s xs
  have hc : (wcells b s xs).toList.length = 66 := by simpa using wcells_size b s xs hl
  unfold splice
  rw [List.drop_of_length_le (by rw [hc]; simp [hs])]
  simp
theorem RDAt.pushP {w0 w9 : World} {r : Nat} {R : RD} {vs vp vf v9 : Value} {N : Nat} (h : RDAt w0 r R vs vp vf N) (q : Int × Int × List Int) (hq : okW q) (own9 : w9.ownsRow 0 146 66 v9 (R.pend ++ [q]).length (pcells (R.pend ++ [q]))) (og : Off (fun k => vp.ownBlock = some k) w0 w9) (ob : ∀ k, v9.ownBlock = some k → vp.ownBlock = some k ∨ w0.heap.size ≤ k) (hN : N + 1 < 1000000000) :
    RDAt (w9.setCell ⟨r, 2, none⟩ v9) r { R with pend := R.pend ++ [q] } vs v9 vf (N + 1) := by
  have hr9 := h.row.off og h.pr
  have q1 := row_set hr9 2 v9
  have ofs : Off (· = r) w9 (w9.setCell ⟨r, 2, none⟩ v9) := Off.of_setCell _ _ _ rfl
  have hne : ∀ k, v9.ownBlock = some k → k ≠ r ∧ vf.ownBlock ≠ some k ∧ vs.ownBlock ≠ some k ∧ True := fun k e => by
    rcases ob k e with e2 | e2
    · exact ⟨fun e3 => h.pr (e3 ▸ e2), h.pf k e2, fun e3 => h.sp k e3 e2, trivial⟩
    · exact ⟨fun e3 => by have := h.row.lt; omega, fun e3 => by have := (h.fails.lt _ e3).2; omega, fun e3 => by have := (h.sure.lt _ e3).2; omega, trivial⟩
  have hall : ∀ x ∈ R.pend ++ [q], okW x := fun x hx => by
    rcases List.mem_append.1 hx with c | c
    · exact h.okp x c
    · simp at c; rw [c]; exact hq
  have hb := h.bound
  exact ⟨q1, own_off (own_off h.sure og (fun k e e2 => h.sp k e e2)) ofs (fun k e q => h.sr (q ▸ e)), own_off own9 ofs (fun k e q => (hne k e).1 q), own_off (own_off h.fails og (fun k e e2 => h.pf k e2 e)) ofs (fun k e q => h.fr (q ▸ e)), (fun k e e2 => (hne k e2).2.2.1 e), h.sf, (fun k e e2 => (hne k e).2.1 e2), h.sr, (fun e => (hne r e).1 rfl), h.fr, h.oks, hall, by simp; omega, hN, h.fbig, h.opsn, h.fusew⟩
theorem built146 (b s : Int) (xs : List Int) (h : xs.length = 64) : Try.prog.built 146 [(0, .int .i64 b), (1, .int .i64 s), (2, .agg (bs xs))] = some (wcells b s xs) := by
  unfold Program.built
  have h69 := info146
  cases hq : Try.prog.info? 146 with
  | none => simp [hq] at h69
  | some it =>
    simp [hq] at h69
    rw [Try.underlying146]
    cases h3 : Try.prog.info? 3 with
    | none => have := info3; simp [h3] at this
    | some i3 =>
      cases h66 : Try.prog.info? 113 with
      | none => have := size113; simp [h66] at this
      | some i66 =>
        have e3 := info3; have e66 := size113
        simp [h3] at e3; simp [h66] at e66
        simp [h3, h66, h69.1, e3.2.1, e66]
        have hz : (wcells 0 0 (zs 64)).size = 66 := wcells_size _ _ _ (zs_length 64)
        have hz0 : (Value.agg (wcells 0 0 (zs 64))).cells = wcells 0 0 (zs 64) := rfl
        have y1 : (⟨splice (wcells 0 0 (zs 64)).toList 0 [Value.int .i64 b]⟩ : Array Value).size = 66 := by simp [splice, wcells, pcell, zs]
        have y2 : (⟨splice (splice (wcells 0 0 (zs 64)).toList 0 [Value.int .i64 b]) 1 [Value.int .i64 s]⟩ : Array Value).size = 66 := by simp [splice, wcells, pcell, zs]
        rw [hz0, fill_step _ _ 0 _ _ 0 1 rfl rfl (by omega), fill_step _ _ 1 _ _ 1 1 rfl rfl (by show 1 + 1 ≤ Array.size _; exact Nat.le_trans (by omega) (Nat.le_of_eq y1.symm)), fill_step _ _ 2 _ _ 2 64 rfl (by show (bs xs).size = 64; rw [bs_size, h]) (by show 2 + 64 ≤ Array.size _; exact Nat.le_of_eq y2.symm)]
        unfold Instr.fill
        congr 1
        show (⟨splice (splice (splice (wcells 0 0 (zs 64)).toList 0 [Value.int .i64 b]) 1 [Value.int .i64 s]) 2 (bs xs).toList⟩ : Array Value) = wcells b s xs
        unfold wcells pcell bs
        simp [splice, zs, h]
def RD.push (R : RD) (q : Int × Int × List Int) : RD := { R with pend := R.pend ++ [q] }
def RD.wrote (R : RD) (b : Int) (x : List Int) : Nat → RD
  | 0 => R
  | k + 1 => (R.wrote b x k).push (b, (k : Int), cut x k)
def rwrite (R : RD) (b : Int) (x : List Int) : Int × RD := if R.down then (4, R) else if b < 0 ∨ b ≥ R.n then (1, R) else if (rcount R).1 = 0 then (0, (rcount R).2.wrote b x 4) else rcount R
theorem cutB (x : List Int) (hb : Bytes x) (k : Nat) : Bytes (cut x k) := fun y hy => hb y (List.mem_of_mem_drop (List.mem_of_mem_take hy))
theorem below_set_row {w : World} {g r j : Nat} {cs : Array Value} {t : TypeId} {v : Value} (h : Row w g cs t) (hne : g ≠ r) : Row (w.setCell ⟨r, j, none⟩ v) g cs t := row_setCell_other h hne j v
set_option maxHeartbeats 2000000 in
set_option maxRecDepth 20000 in
theorem rwrite_any {w : World} {r : Nat} {R : RD} {vs vp vf : Value} {N : Nat} (h : RDAt w r R vs vp vf N) (ho : R.ops < 9223372036854775806) (b : Int) (X : List Int) (hX : X.length = 256) (xb : Bytes X) (hN : N + 5 < 1000000000) :
    Calls Try.prog 75 #[.pointer (some ⟨r, 0, none⟩), .int .i64 b, .agg (bs X)] w fun e w' => e = .returned (.int .i64 (rwrite R b X).1) ∧ RStep w r vs vp vf (rwrite R b X).2 (N + 4) w' := by
  obtain ⟨PP, HP⟩ : ∃ P : Ending → World → Prop, Hid (P = fun e w' => e = .returned (.int .i64 (rwrite R b X).1) ∧ RStep w r vs vp vf (rwrite R b X).2 (N + 4) w') := ⟨_, rfl⟩
  rw [show (fun e w' => e = .returned (.int .i64 (rwrite R b X).1) ∧ RStep w r vs vp vf (rwrite R b X).2 (N + 4) w') = PP from HP.out.symm]
  have HRT : Hid (∀ (E : Int) (R' : RD) (w' : World), rwrite R b X = (E, R') → RStep w r vs vp vf R' (N + 4) w' → PP (.returned (.int .i64 E)) w') := fun E R' w' q1 q2 => by
    rw [HP.out, q1]; exact ⟨rfl, q2⟩
  clear HP
  have a0 : Row (w.alloc (.cells (bs X) 55)) w.heap.size (bs X) 55 := Row.new _ _ _
  have ab : Below w.heap.size w (w.alloc (.cells (bs X) 55)) := (Below.refl _ _).alloc (Nat.le_refl _) _
  have h0 := h.below ab
  have c6 : (w.alloc (.cells (bs X) 55)).cell? ⟨r, 6, none⟩ = some (.bool R.down) := row_at h0.row 6 _ rfl
  have c0 : (w.alloc (.cells (bs X) 55)).cell? ⟨r, 0, none⟩ = some (.int .i64 R.n) := row_at h0.row 0 _ rfl
  have grow : ∀ {R' : RD} {w' : World} {a1 a2 a3 : Value}, RDAt w' r R' a1 a2 a3 N → RDAt w' r R' a1 a2 a3 (N + 4) := fun q => { q with bound := by have := q.bound; omega, big := by omega }
  have plain : ∀ {R' : RD} {w' : World}, RDAt w' r R' vs vp vf N → Off (· = r) w w' → RStep w r vs vp vf R' (N + 4) w' := fun q1 q2 => ⟨vs, vp, vf, grow q1, q2.mono (fun j q => Or.inl (Or.inl q)), fun j q => Or.inl q⟩
  have HFL : Hid (∀ j, rfoot r vs vp vf j → j < w.heap.size) := fun j hj => h.lt hj
  by_cases hd : R.down = true
  · rw [hd] at c6
    have HRR : Hid (PP (.returned (.int .i64 4)) (w.alloc (.cells (bs X) 55))) := HRT.out 4 R _ (by unfold rwrite; rw [if_pos hd]) (plain h0 (Off.of_below ab))
    clear hd
    go_enter Try.func75, Try.ntmps75
    go_wp2_with fail
    try go_ret
    exact HRR.out
  · have hd' : R.down = false := by simpa using hd
    rw [hd'] at c6
    by_cases hb : b < 0
    · have HRR : Hid (PP (.returned (.int .i64 1)) (w.alloc (.cells (bs X) 55))) := HRT.out 1 R _ (by unfold rwrite; rw [if_neg hd, if_pos (Or.inl hb)]) (plain h0 (Off.of_below ab))
      clear hd hd'
      go_enter Try.func75, Try.ntmps75
      go_wp2_with fail
      try go_ret
      exact HRR.out
    by_cases hbn : b ≥ R.n
    · have HRR : Hid (PP (.returned (.int .i64 1)) (w.alloc (.cells (bs X) 55))) := HRT.out 1 R _ (by unfold rwrite; rw [if_neg hd, if_pos (Or.inr hbn)]) (plain h0 (Off.of_below ab))
      clear hd hd'
      go_enter Try.func75, Try.ntmps75
      go_wp2_with fail
      try go_ret
      exact HRR.out
    · have hr : rwrite R b X = if (rcount R).1 = 0 then (0, (rcount R).2.wrote b X 4) else rcount R := by unfold rwrite; rw [if_neg hd, if_neg (by omega)]
      have hop := rop_any h0 ho
      generalize rcount R = rc at hop hr
      obtain ⟨E, R1⟩ := rc
      simp only at hop hr
      clear hd hd'
      by_cases hE : E = 0
      · rw [if_pos hE] at hr
        subst hE
        have HRR : Hid _ := hr
        clear hr
        go_enter Try.func75, Try.ntmps75
        go_wp2_with (first
          | (go_at_call 90; refine hop.mono ?_; clear hop; rintro e w2 ⟨he, D2, o2⟩; obtain rfl := he))
        have r2 := a0.off o2 (by have := HFL.out r (Or.inl rfl); omega)
        have O2 : Off (rfoot r vs vp vf) w w2 := ((Off.of_below (F := (· = r)) ab).trans o2 (fun _ q => Or.inl q)).mono (fun j q => Or.inl (Or.inl q))
        have HBr : Hid (w.heap.size ≠ r) := by have := HFL.out r (Or.inl rfl); show _ ≠ _; omega
        have HBn : Hid (¬ rfoot r vs vp vf w.heap.size) := fun q => by have := HFL.out _ q; omega
        clear c0 c6 plain
        go_loopw [8] (fun c wr => ∃ (k : Nat) (v : Value), c = .int .i64 k ∧ k ≤ 4 ∧ RDAt wr r (R1.wrote b X k) vs v vf (N + k) ∧ Row wr w.heap.size (bs X) 55 ∧ Off (rfoot r vs vp vf) w wr ∧ Hid (∀ j, v.ownBlock = some j → vp.ownBlock = some j ∨ w.heap.size + 1 ≤ j)) (fun c _ => 4 - (intOf c).toNat)
        case atStart => exact ⟨0, vp, rfl, by omega, D2, r2, O2, fun j q => Or.inl q⟩
        case round =>
          clear r2 O2 D2 o2 a0 ab h0 h
          obtain ⟨k, v, rfl, hk, D, rX, ro, HFT⟩ := hrel
          by_cases hk4 : k < 4
          · have hk4' : (k : Int) < 4 := by omega
            obtain ⟨oa1, cap1, e1⟩ := own_form D.pend
            obtain ⟨n1, Hn1⟩ : ∃ n, Hid ((R1.wrote b X k).pend.length = n) := ⟨_, rfl⟩
            rw [Hn1.out] at e1
            subst e1
            have HNB : Hid (N + k + 1 < 1000000000) := by show _ < _; omega
            obtain ⟨qb, qs, qx, hqb, hqs, hqx'⟩ : ∃ qb qs qx, qb = b ∧ qs = (k : Int) ∧ qx = cut X k := ⟨_, _, _, rfl, rfl, rfl⟩
            have hqx : qx.length = 64 := by rw [hqx']; exact cut_length X k hX hk4
            have hqok : okW (qb, qs, qx) := ⟨by show 0 ≤ qs; omega, by show qs < 4; omega, hqx, by rw [hqx']; exact cutB X xb k⟩
            have HCT : Hid (∀ wx, Calls Try.prog 91 #[.agg (bs X), .int .i64 (k : Nat)] wx fun e w' => e = .returned (.agg (bs qx)) ∧ Below wx.heap.size wx w') := fun wx => by rw [hqx']; exact rcut_in X hX k hk4 wx
            have HWR : Hid (R1.wrote b X (k + 1) = { R1.wrote b X k with pend := (R1.wrote b X k).pend ++ [(qb, qs, qx)] }) := by show _ = _; rw [hqb, hqs, hqx']; rfl
            have HB : Hid _ := built146 qb qs qx hqx
            have hqb2 : Hid (qb = b) := hqb
            have hqs2 : Hid (qs = (k : Int)) := hqs
            clear hqx' hqb hqs
            go_upto_region 11 with fail
            refine wp_region_last (S := fun w' => Row w' r (rdcells (R1.wrote b X k) vs (.slice oa1 n1 cap1) vf) 32 ∧ Row w' w.heap.size (bs X) 55) 15 (by kernel_rfl) ⟨D.row, rX⟩ fun hS => ?_
            refine wpAnyL_take (i := 0) (v := .pointer (some ⟨r, 0, none⟩)) rfl (by kernel_rfl) (by kernel_rfl) (by kernel_rfl) (by kernel_rfl) (fun _ _ _ h => h) (Or.inl ⟨by rfl, fun w _ => by rfl⟩) hS ?_
            try simp only [Act.put, nz0, nz1, nz2, nz3, nz4, nz5]
            refine wpAnyL_take (i := 1) (v := .pointer (some ⟨r, 0, none⟩)) rfl (by kernel_rfl) (by kernel_rfl) (by kernel_rfl) (by kernel_rfl) (fun _ _ _ h => h) (Or.inl ⟨by rfl, fun w _ => by rfl⟩) hS ?_
            try simp only [Act.put, nz0, nz1, nz2, nz3, nz4, nz5]
            refine wpAnyL_take (i := 2) (v := .pointer (some ⟨r, 0, none⟩)) rfl (by kernel_rfl) (by kernel_rfl) (by kernel_rfl) (by kernel_rfl) (fun _ _ _ h => h) (Or.inl ⟨by rfl, fun w _ => by go_simp⟩) hS ?_
            try simp only [Act.put, nz0, nz1, nz2, nz3, nz4, nz5]
            refine wpAnyL_take (i := 3) (v := .pointer (some ⟨r, 2, none⟩)) rfl (by kernel_rfl) (by kernel_rfl) (by kernel_rfl) (by kernel_rfl) (fun _ _ _ h => h) (Or.inl ⟨by rfl, fun w _ => by go_simp⟩) hS ?_
            try simp only [Act.put, nz0, nz1, nz2, nz3, nz4, nz5]
            refine wpAnyL_take (i := 4) (v := .slice oa1 n1 cap1) rfl (by kernel_rfl) (by kernel_rfl) (by kernel_rfl) (by kernel_rfl) (fun _ _ _ h => h) (Or.inl ⟨by rfl, fun w h => by have c := row_at h.1 2 _ rfl; simp only [rdcells, List.getElem_toArray, List.getElem_cons_zero, List.getElem_cons_succ] at c; go_simp⟩) hS ?_
            try simp only [Act.put, nz0, nz1, nz2, nz3, nz4, nz5]
            refine wpAnyL_take (i := 5) (v := .int .i64 b) rfl (by kernel_rfl) (by kernel_rfl) (by kernel_rfl) (by kernel_rfl) (fun _ _ _ h => h) (Or.inl ⟨by rfl, fun w _ => by rfl⟩) hS ?_
            try simp only [Act.put, nz0, nz1, nz2, nz3, nz4, nz5]
            refine wpAnyL_take (i := 6) (v := .int .i64 (k : Nat)) rfl (by kernel_rfl) (by kernel_rfl) (by kernel_rfl) (by kernel_rfl) (fun _ _ _ h => h) (Or.inl ⟨by rfl, fun w _ => by rfl⟩) hS ?_
            try simp only [Act.put, nz0, nz1, nz2, nz3, nz4, nz5]
            refine wpAnyL_take (i := 7) (v := .agg (bs X)) rfl (by kernel_rfl) (by kernel_rfl) (by kernel_rfl) (by kernel_rfl) (fun _ _ _ h => h) (yields_row (by rfl) 55 (.tmp 5) rfl w.heap.size rfl 55 (bs X) (fun w h => h.2) 256 5 Try.underlying55 size55 (by rw [bs_size, hX])) hS ?_
            try simp only [Act.put, nz0, nz1, nz2, nz3, nz4, nz5]
            refine wpAnyL_take (i := 8) (v := .int .i64 (k : Nat)) rfl (by kernel_rfl) (by kernel_rfl) (by kernel_rfl) (by kernel_rfl) (fun _ _ _ h => h) (Or.inl ⟨by rfl, fun w _ => by rfl⟩) hS ?_
            try simp only [Act.put, nz0, nz1, nz2, nz3, nz4, nz5]
            refine wpAnyL_ready (rs := [9]) (by kernel_rfl) (by simp) ?_
            refine AllReadyL.cons rfl (fun K hK => ?_) AllReadyL.nil
            go_simp
            go_at_call 91
            refine (HCT.out _).mono ?_
            rintro e w5 ⟨he, b5⟩
            obtain rfl := he
            have b5x : Below wr.heap.size wr w5 := (Below.refl _ wr).drew.trans b5
            have D5 := D.below b5x
            have hS5 : Row w5 r (rdcells (R1.wrote b X k) vs (.slice oa1 n1 cap1) vf) 32 ∧ Row w5 w.heap.size (bs X) 55 := ⟨hS.1.below b5 hS.1.lt, hS.2.below b5 hS.2.lt⟩
            refine hK.out _ _ (fun _ => hS5) ?_
            try simp only [Act.put, nz0, nz1, nz2, nz3, nz4, nz5]
            have hS := hS5
            refine wpAnyL_take (i := 10) (v := .agg (wcells qb qs qx)) rfl (by kernel_rfl) (by kernel_rfl) (by kernel_rfl) (by kernel_rfl) (fun _ _ _ h => h) (by have q := HB.out; rw [hqb2.out, hqs2.out] at q ⊢; exact yields_build (by rfl) 146 #[(0, .tmp 37), (1, .tmp 38), (2, .tmp 41)] rfl [(0, .int .i64 b), (1, .int .i64 (k : Nat)), (2, .agg (bs qx))] (by rfl) _ q) hS ?_
            try simp only [Act.put, nz0, nz1, nz2, nz3, nz4, nz5]
            refine wpAnyL_ready (rs := [11]) (by kernel_rfl) (by simp) ?_
            refine AllReadyL.cons rfl (fun K hK => step_of rfl (wp_slice_one69 (.tmp 42) rfl qb qs qx hqx rfl ?_)) AllReadyL.nil
            have rZ : Row (w5.alloc (.cells (wcells qb qs qx) 146)) w5.heap.size (wcells qb qs qx) 146 := Row.new _ _ _
            have bZ : Below w5.heap.size w5 (w5.alloc (.cells (wcells qb qs qx) 146)) := (Below.refl _ _).alloc (Nat.le_refl _) _
            have D6 := D5.below bZ
            have hS6 := (show Row (w5.alloc (.cells (wcells qb qs qx) 146)) r (rdcells (R1.wrote b X k) vs (.slice oa1 n1 cap1) vf) 32 ∧ Row (w5.alloc (.cells (wcells qb qs qx) 146)) w.heap.size (bs X) 55 from ⟨hS5.1.below bZ hS5.1.lt, hS5.2.below bZ hS5.2.lt⟩)
            refine hK.out _ _ (fun _ => hS6) ?_
            try simp only [Act.put, nz0, nz1, nz2, nz3, nz4, nz5]
            obtain ⟨Zb, HZb⟩ : ∃ Zb, Hid (w5.heap.size = Zb) := ⟨_, rfl⟩
            rw [HZb.out] at rZ ⊢
            have hb6 := b5x.trans (bZ.mono b5x.size)
            generalize w5.alloc (.cells (wcells qb qs qx) 146) = w6 at rZ D6 hS6 hb6 ⊢
            have hbd6 : (R1.wrote b X k).pend.length ≤ 1000000000 := by have := D6.bound; have := D6.big; omega
            have HAP : Hid (∀ ty, ∃ v' w', (Builtin.append_ #[29, 29] ty #[.slice oa1 n1 cap1, .slice (some ⟨Zb, 0, none⟩) 1 1]).run Try.prog w6 = .ok v' w' ∧ (w'.ownsRow 0 146 66 v' ((R1.wrote b X k).pend ++ [(qb, qs, qx)]).length (pcells ((R1.wrote b X k).pend ++ [(qb, qs, qx)])) ∧ w6.grownBy w' (.slice oa1 n1 cap1 : Value).ownBlock ∧ (v'.ownBlock = (.slice oa1 n1 cap1 : Value).ownBlock ∨ v'.ownBlock = some w6.heap.size))) := fun ty => by
              obtain ⟨i, hi, hz, hs, hby⟩ := info_parts info146
              obtain ⟨v', w', h1, h2, h3, _, h5⟩ := run_append_own_at (P := Try.prog) w6 0 29 ty 146 i _ 66 80 Try.underlying29 hi hz hs hby (wcells_size _ _ _ (zs_length 64)) (by decide) (.slice oa1 n1 cap1) (R1.wrote b X k).pend.length (pcells (R1.wrote b X k).pend) D6.pend ⟨Zb, 0, none⟩ 1 1 (pcell (qb, qs, qx)) (by simp [pcell, hqx]) (fun j u hj => by rw [Addr.add_mid, Nat.zero_add]; exact row_at rZ j u (by simpa [wcells] using hj)) (pcell_one _) (by unfold maxLen; omega) (by omega) (Nat.zero_le _)
              exact ⟨v', w', h1, by rw [List.length_append, pcells_snoc]; exact h2, h3, h5⟩
            refine wpAnyL_ready (rs := [12]) (by kernel_rfl) (by simp) ?_
            refine AllReadyL.cons rfl (fun K hK => step_of rfl (wp_copy (.tmp 36) (.tmp 43) 29 rfl _ _ rfl rfl (fun ty => HAP.out ty) ?_)) AllReadyL.nil
            rintro v9 w9 ⟨own9, gr9, ob9⟩
            have og9 : Off (fun k => (.slice oa1 n1 cap1 : Value).ownBlock = some k) w6 w9 := Off.of_grown gr9 (fun k e => e)
            have hS9 := (show Row w9 r (rdcells (R1.wrote b X k) vs (.slice oa1 n1 cap1) vf) 32 ∧ Row w9 w.heap.size (bs X) 55 from ⟨hS6.1.off og9 D6.pr, hS6.2.off og9 (fun e => (HFT.out _ e).elim (fun c => HBn.out (Or.inr (Or.inr (Or.inl c)))) (fun c => by omega))⟩)
            obtain ⟨oa9, cap9, hv9⟩ := own_form own9
            obtain ⟨n9, Hn9⟩ : ∃ n, Hid (((R1.wrote b X k).pend ++ [(qb, qs, qx)]).length = n) := ⟨_, rfl⟩
            rw [Hn9.out] at hv9
            subst hv9
            have hob : ∀ k, (Value.slice oa9 n9 cap9).ownBlock = some k → (.slice oa1 n1 cap1 : Value).ownBlock = some k ∨ w6.heap.size ≤ k := fun k e => by
              rcases ob9 with q | q
              · rw [q] at e; exact Or.inl e
              · rw [q] at e; cases e; exact Or.inr (Nat.le_refl _)
            have D9 := D6.pushP (qb, qs, qx) hqok own9 og9 hob (by have := HNB.out; omega)
            have s1 := row_at hS9.1 2 _ rfl
            have t1 := row_frozen hS9.1 2
            have o9 : Off (fun k => k = r ∨ (.slice oa1 n1 cap1 : Value).ownBlock = some k) wr (w9.setCell ⟨r, 2, none⟩ (.slice oa9 n9 cap9)) := ((Off.of_below (F := fun k => k = r ∨ (.slice oa1 n1 cap1 : Value).ownBlock = some k) hb6).trans og9 (fun _ q => Or.inl (Or.inr q))).trans (Off.of_setCell (F := (· = r)) _ _ _ rfl) (fun _ q => Or.inl (Or.inl q))
            have hob2 : ∀ k, (Value.slice oa9 n9 cap9).ownBlock = some k → (.slice oa1 n1 cap1 : Value).ownBlock = some k ∨ wr.heap.size ≤ k := fun k e => by
              rcases hob k e with q | q
              · exact Or.inl q
              · exact Or.inr (Nat.le_trans hb6.size q)
            have HD9 : Hid _ := D9
            clear HAP own9 D9 D6 hob ob9
            refine hK.out _ _ (fun _ => hS9) ?_
            try simp only [Act.put, nz0, nz1, nz2, nz3, nz4, nz5]
            refine wpAnyL_ready (rs := [13]) (by kernel_rfl) (by simp) ?_
            refine AllReadyL.cons rfl (fun K hK => ?_) AllReadyL.nil
            go_simp
            refine hK.out _ _ (fun _ => hS9) ?_
            try simp only [Act.put, nz0, nz1, nz2, nz3, nz4, nz5]
            have hS := hS9
            refine wpAnyL_take (i := 14) (v := .pointer (some ⟨r, 2, none⟩)) rfl (by kernel_rfl) (by kernel_rfl) (by kernel_rfl) (by kernel_rfl) (fun _ _ _ h => h) (Or.inl ⟨by rfl, fun w _ => by go_simp⟩) hS ?_
            try simp only [Act.put, nz0, nz1, nz2, nz3, nz4, nz5]
            refine wpAnyL_ready (rs := [15]) (by kernel_rfl) (by simp) ?_
            refine AllReadyL.cons rfl (fun K hK => ?_) AllReadyL.nil
            simp only [rdcells, List.getElem_toArray, List.getElem_cons_zero, List.getElem_cons_succ] at s1
            go_simp
            refine hK.out _ _ (fun q => absurd rfl q) ?_
            try simp only [Act.put, nz0, nz1, nz2, nz3, nz4, nz5]
            refine wpAnyL_done (by kernel_rfl) ?_ _
            go_wp2_with fail
            go_roundw
            case rel =>
              refine ⟨k + 1, .slice oa9 n9 cap9, by go_num, by omega, by rw [HWR.out]; exact HD9.out, ?_, ?_, ?_⟩
              · exact below_set_row hS9.2 HBr.out
              · refine ro.trans o9 (fun j q => ?_)
                rcases q with q | q
                · exact Or.inl (Or.inl q)
                · rcases HFT.out j q with c | c
                  · exact Or.inl (Or.inr (Or.inr (Or.inl c)))
                  · exact Or.inr (by omega)
              · intro j q
                rcases hob2 j q with c | c
                · exact HFT.out j c
                · exact Or.inr (Nat.le_trans rX.lt c)
            case measure => simp [intOf]; omega
          · have hk4' : ¬ (k : Int) < 4 := by omega
            have e4 : k = 4 := by omega
            subst e4
            have HFIN : Hid _ := HRT.out _ _ _ HRR.out ⟨vs, v, vf, D, ro, fun j q => by
              rcases q with q | q | q | q
              · exact Or.inl (Or.inl q)
              · exact Or.inl (Or.inr (Or.inl q))
              · rcases HFT.out j q with c | c
                · exact Or.inl (Or.inr (Or.inr (Or.inl c)))
                · exact Or.inr (by omega)
              · exact Or.inl (Or.inr (Or.inr (Or.inr q)))⟩
            go_wp2_with fail
            try go_ret
            exact HFIN.out
      · rw [if_neg hE] at hr
        have hEq : (E == 0) = false := by simpa using hE
        have HRR : Hid _ := hr
        clear hr
        go_enter Try.func75, Try.ntmps75
        go_wp2_with (first
          | (go_at_call 90; refine hop.mono ?_; clear hop; rintro e w2 ⟨he, D2, o2⟩; obtain rfl := he))
        try go_ret
        exact HRT.out _ _ _ HRR.out (plain D2 ((Off.of_below (F := (· = r)) ab).trans o2 (fun _ q => Or.inl q)))
end Go.Proofs.Ytgnedbagelhcbaa
namespace Go.Proofs.Ytgnedbagelhcbaa
open Go.ChangeShapes Go.WideShapes Go.ChangeAt Go.RowKit
set_option linter.unusedVariables false
set_option linter.unusedSimpArgs false
set_option maxRecDepth 20000
end Go.Proofs.Ytgnedbagelhcbaa
namespace Go.Proofs.Ytgnedbagelhcbaa
open Go.ChangeShapes Go.WideShapes Go.ChangeAt Go.RowKit
set_option linter.unusedVariables false
set_option linter.unusedSimpArgs false
set_option maxRecDepth 20000
structure Rel (d : Dsk) (R : RD) : Prop where
  n : R.n = d.n
  sure : over noneS R.sure = d.sure
  pend : R.pend = d.pend
  fails : ∀ i, d.fails i = decide (i ∈ R.fails)
  fuse : R.fuse = d.fuse
  ops : R.ops = d.ops
  down : R.down = d.down
theorem Rel.seen {d : Dsk} {R : RD} (h : Rel d R) (b : Int) : R.seen b = d.seen b := by unfold RD.seen Dsk.seen; rw [h.sure, h.pend]
theorem Rel.kept {d : Dsk} {R : RD} (h : Rel d R) (b : Int) : R.kept b = d.sure.block b := by unfold RD.kept; rw [h.sure]
theorem rel_count {d : Dsk} {R : RD} (h : Rel d R) : (rcount R).1 = (count d).1 ∧ Rel (count d).2 (rcount R).2 := by
  have hf := h.fails (d.ops + 1)
  unfold rcount count
  rw [h.ops, h.fuse]
  by_cases e : d.ops + 1 = d.fuse
  · rw [if_pos e, if_pos e]
    exact ⟨rfl, ⟨h.n, h.sure, h.pend, h.fails, rfl, rfl, rfl⟩⟩
  · rw [if_neg e, if_neg e]
    by_cases e2 : d.ops + 1 ∈ R.fails
    · rw [if_pos e2, hf, decide_eq_true e2, if_pos rfl]
      exact ⟨rfl, ⟨h.n, h.sure, h.pend, h.fails, rfl, rfl, h.down⟩⟩
    · rw [if_neg e2, hf, decide_eq_false e2, if_neg (by simp)]
      exact ⟨rfl, ⟨h.n, h.sure, h.pend, h.fails, rfl, rfl, h.down⟩⟩
theorem rel_wrote {d : Dsk} {R : RD} (h : Rel d R) (b : Int) (x : List Int) : ∀ k, Rel (d.wrote b x k) (R.wrote b x k)
  | 0 => h
  | k + 1 => by
    have ih := rel_wrote h b x k
    exact ⟨ih.n, ih.sure, by show (R.wrote b x k).pend ++ _ = (d.wrote b x k).pend ++ _; rw [ih.pend], ih.fails, ih.fuse, ih.ops, ih.down⟩
theorem rel_write {d : Dsk} {R : RD} (h : Rel d R) (b : Int) (x : List Int) : (rwrite R b x).1 = (writ d b x).1 ∧ Rel (writ d b x).2 (rwrite R b x).2 := by
  obtain ⟨c1, c2⟩ := rel_count h
  unfold rwrite writ ask
  rw [h.down, h.n]
  by_cases hd : d.down = true
  · simp only [hd, if_true]; exact ⟨by trivial, h⟩
  · have hd' : d.down = false := by simpa using hd
    simp only [hd', Bool.false_eq_true, if_false]
    by_cases hb : b < 0 ∨ b ≥ d.n
    · rw [if_pos hb, if_neg (by omega : ¬ (0 ≤ b ∧ b < (d.n : Int)))]
      exact ⟨rfl, h⟩
    · rw [if_neg hb, if_pos (by omega : 0 ≤ b ∧ b < (d.n : Int)), c1]
      by_cases e : (count d).1 = 0
      · rw [if_pos e, if_pos e]; exact ⟨rfl, rel_wrote c2 b x 4⟩
      · rw [if_neg e, if_neg e]; exact ⟨c1, c2⟩
theorem rel_sync {d : Dsk} {R : RD} (h : Rel d R) : (rsync R).1 = (sync d).1 ∧ Rel (sync d).2 (rsync R).2 := by
  obtain ⟨c1, c2⟩ := rel_count h
  unfold rsync sync
  rw [h.down]
  by_cases hd : d.down = true
  · simp only [hd, if_true]; exact ⟨by trivial, h⟩
  · have hd' : d.down = false := by simpa using hd
    simp only [hd', Bool.false_eq_true, if_false]
    rw [c1]
    by_cases e : (count d).1 = 0
    · rw [if_pos e, if_pos e]
      exact ⟨rfl, ⟨c2.n, by show over noneS (_ ++ _) = over _ _; rw [over_append, c2.sure, c2.pend], rfl, c2.fails, c2.fuse, c2.ops, c2.down⟩⟩
    · rw [if_neg e, if_neg e]; exact ⟨c1, c2⟩
end Go.Proofs.Ytgnedbagelhcbaa
