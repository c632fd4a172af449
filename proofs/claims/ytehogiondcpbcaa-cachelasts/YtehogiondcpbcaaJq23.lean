/-
  Proved here: page.GetUndo: what a payload holds, if what was read of it makes it again. Plain facts on undo pages: what was put is read again; unlike numbers and kinds have unlike payloads.
-/
import Derived.Test.YtehogiondcpbcaaJq22
namespace Go.Proofs.Ytehogiondcpbcaa
open Go.ChangeShapes Go.WideShapes Go.ChangeAt Go.RowKit
set_option linter.unusedVariables false
set_option linter.unusedSimpArgs false
set_option maxRecDepth 20000
def readO (l : List Int) (a : Nat) : Nat → List O × Nat
  | 0 => ([], a)
  | k + 1 => ((readO l a k).1 ++ [oAt l (readO l a k).2], oNext l (readO l a k).2)
theorem readO_fits (l : List Int) (a : Nat) : ∀ k, ∀ o ∈ (readO l a k).1, o.Fits
  | 0 => by simp [readO]
  | k + 1 => by
    intro o ho
    rcases List.mem_append.1 ho with h | h
    · exact readO_fits l a k o h
    · rw [List.mem_singleton.1 h]; exact oAt_fits l _
theorem readO_length (l : List Int) (a : Nat) : ∀ k, (readO l a k).1.length = k
  | 0 => rfl
  | k + 1 => by simp [readO, readO_length l a k]
theorem readO_le (l : List Int) (a : Nat) : ∀ k, a + k ≤ (readO l a k).2 ∧ (readO l a k).2 ≤ a + 266 * k
  | 0 => by simp [readO]
  | k + 1 => by
    have h := readO_le l a k
    have := oNext_le l (readO l a k).2
    simp only [readO]; omega
def cntU (p : List Int) : Nat := (getN (strOfNums p) 15 1).toNat
def uOf (p : List Int) : List O := (readO p 16 (cntU p)).1
def lsnOf (p : List Int) : Int := getN (strOfNums p) 7 8
def isU (no : Int) (p : List Int) : Bool := decide (may (uOf p) = true) && decide (putU no (lsnOf p) (uOf p) = p)
def GotU (w : World) (no : Int) (p : List Int) (e : Ending) (w' : World) : Prop :=
  ∃ v', e = .returned (.tuple #[.agg #[.int .u64 (if isU no p then lsnOf p else 0), v'], .int .i64 (if isU no p then 0 else 2)]) ∧ Olds w' v' (if isU no p then uOf p else []) ∧ Below w.heap.size w w'
theorem Own.snocP {w : World} {base : Nat} {v : Value} {os : List O} (h : Own w base v os) (ty : TypeId) (X : Nat) (p : O) (hX : Row w X p.arr 130) (hb : base ≤ w.heap.size) (hn : os.length ≤ 1000) :
    ∃ v' w', (Builtin.append_ #[101, 101] ty #[v, .slice (some ⟨X, 0, none⟩) 1 1]).run Try.prog w = .ok v' w' ∧ Own w' base v' (os ++ [p]) ∧ w.grownBy w' v.ownBlock := by
  obtain ⟨i, hi, hz, hs, hby⟩ := info_parts info130
  obtain ⟨v', w', hr, h2, h3, h4, h5⟩ := run_append_own_at (P := Try.prog) w base 101 ty 130 i _ 6 32 Try.underlying101 hi hz hs hby rfl (by decide) v os.length (flat os) h ⟨X, 0, none⟩ 1 1 p.cells rfl (fun j u hj => by rw [Addr.add_mid, Nat.zero_add, cell_of_row w X j _ _ _ hX, ← hj]; show p.cells.toArray[j]? = _; rw [List.getElem?_toArray]) (fun u hu => flat_one [p] u (by simpa [flat] using hu)) (by unfold maxLen; omega) (by omega) hb
  refine ⟨v', w', hr, ?_, h3⟩
  unfold Own
  rw [flat_append, List.length_append]
  exact h2
theorem Row.grown {w w' : World} {k : Nat} {cs : Array Value} {t : TypeId} {row : Option Nat} (h : Row w k cs t) (hg : w.grownBy w' row) (hk : row ≠ some k) : Row w' k cs t := (hg.block k h.lt (fun q => hk q.symm)).trans h
theorem Own.blk {w : World} {base : Nat} {v : Value} {os : List O} (h : Own w base v os) (k : Nat) (hk : v.ownBlock = some k) : base ≤ k := (World.ownsRow.lt h k hk).1
theorem Own.offRow {w w' : World} {base g : Nat} {v : Value} {os : List O} (h : Own w base v os) (ho : Off (· = g) w w') (hg : g < base) : Own w' base v os := by
  have hl := World.ownsRow.lt h
  obtain ⟨h1, h2⟩ := h
  refine ⟨h1, ?_⟩
  rcases h2 with h2 | ⟨q, cap, cur, rfl, hb', hc, rest⟩
  · exact Or.inl h2
  · have := hl q (by simp [Value.ownBlock])
    exact Or.inr ⟨q, cap, cur, rfl, hb', (ho.block q this.2 (fun e => by omega)).trans hc, rest⟩
theorem Own.setAt {w : World} {base : Nat} {v : Value} {os : List O} (h : Own w base v os) (p : Addr) (hj : p.block < base) (x : Value) : Own (w.setCell p x) base v os := h.offRow (g := p.block) (Off.of_setCell (F := (· = p.block)) _ _ _ rfl) hj
theorem built44one (v : Int) : (Try.prog.built 103 [(0, .int .u64 v)]) = some #[.int .u64 v, .slice none 0 0] := by kernel_rfl
structure LoopU (w wr : World) (gu : Nat) (p : List Int) (lsn : Int) (v : Value) (k : Nat) : Prop where
  pay : Row wr w.heap.size (bs p) 34
  res : Row wr (w.heap.size + 1) #[.int .u64 0, .slice none 0 0] 103
  rdr : Row wr (w.heap.size + 2) #[.string (strOfNums p), .int .i64 (readO p 16 k).2] 179
  u : Row wr gu #[.int .u64 lsn, v] 103
  own : Own wr (gu + 1) v (readO p 16 k).1
  below : Below w.heap.size w wr
set_option maxHeartbeats 4000000 in
theorem getUndo_any (no : Int) (p : List Int) (w : World) (hno : 0 ≤ no ∧ no ≤ 65535) (hp : p.length = 224) (hb : Bytes p) :
    Calls Try.prog 82 #[.int .u16 no, .agg (bs p)] w fun e w' => GotU w no p e w' := by
  have hz1 := zero103
  have hz2 := zero179
  have r0 : Row ((w.alloc (.cells (bs p) 34)).alloc (.cells #[.int .u64 0, .slice none 0 0] 103)) w.heap.size (bs p) 34 := (Row.new _ _ _).alloc _
  have r1 : Row ((w.alloc (.cells (bs p) 34)).alloc (.cells #[.int .u64 0, .slice none 0 0] 103)) (w.heap.size + 1) #[.int .u64 0, .slice none 0 0] 103 := by have := Row.new (w.alloc (.cells (bs p) 34)) #[.int .u64 0, .slice none 0 0] 103; simpa using this
  have ab : Below w.heap.size w ((w.alloc (.cells (bs p) 34)).alloc (.cells #[.int .u64 0, .slice none 0 0] 103)) := ((Below.refl _ _).alloc (Nat.le_refl _) _).alloc (by simp) _
  have hsz : Hid (((w.alloc (.cells (bs p) 34)).alloc (.cells #[.int .u64 0, .slice none 0 0] 103)).heap.size = w.heap.size + 2) := by simp [Hid]
  have HLSN : Hid _ := fun w => lsn_any p w hp
  have hsl : (strOfNums p).size ≤ maxLen := by rw [strOfNums_size, hp]; unfold maxLen; omega
  have HN1 : Hid _ := fun g w h => number_any g (strOfNums p) 15 1 w h hsl (by decide) (by omega)
  have fl := getN_fits (strOfNums p) 7 8
  have fc := getN_fits (strOfNums p) 15 1
  have hcnt : ((cntU p : Nat) : Int) = getN (strOfNums p) 15 1 := by unfold cntU; omega
  have hc255 : cntU p ≤ 255 := by omega
  obtain ⟨lsn, HL⟩ : ∃ v, Hid (lsnOf p = v) := ⟨_, rfl⟩
  have HL' : Hid (getN (strOfNums p) 7 8 = lsn) := HL.out
  rw [HL'.out] at HLSN fl
  rw [← hcnt] at HN1
  obtain ⟨n, HN⟩ : ∃ v, Hid (cntU p = v) := ⟨_, rfl⟩
  rw [HN.out] at HN1 hc255
  have hc0 := str_row r0 224 224 hp
  have hpb : (bs p).size = 224 := by rw [bs_size, hp]
  have HOLD : Hid _ := fun g a w h (ha : a ≤ 400000) => old_any g p a w h (by omega) ha
  clear hcnt fc hsl
  go_enter Try.func82, Try.ntmps82
  go_upto_region 1 with fail
  generalize (w.alloc (.cells (bs p) 34)).alloc (.cells #[.int .u64 0, .slice none 0 0] 103) = w1 at r0 r1 ab hsz hc0 ⊢
  have q0 := r0.alloc (.cells #[.string ByteArray.empty, .int .i64 0] 179)
  have q1 := r1.alloc (.cells #[.string ByteArray.empty, .int .i64 0] 179)
  have q2 : Row (w1.alloc (.cells #[.string ByteArray.empty, .int .i64 0] 179)) (w.heap.size + 2) #[.string ByteArray.empty, .int .i64 0] 179 := by rw [← hsz.out]; exact Row.new _ _ _
  have qb : Below w.heap.size w (w1.alloc (.cells #[.string ByteArray.empty, .int .i64 0] 179)) := ab.alloc (by rw [hsz.out]; omega) _
  go_upto_region 2 with (first
    | (refine store_cells rfl 179 (.tmp 6) (.tmp 12) rfl (w.heap.size + 2) #[.string (strOfNums p), .int .i64 15] (by rw [← hsz.out]; rfl) rfl 179 _ q2 2 size179 rfl rfl (by simp [Value.oneCell']) ?_))
  have a0 := q0.other (g := w.heap.size + 2) (by omega) #[.string (strOfNums p), .int .i64 15]
  have a1 := q1.other (g := w.heap.size + 2) (by omega) #[.string (strOfNums p), .int .i64 15]
  have a2 := q2.set #[.string (strOfNums p), .int .i64 15]
  have abb := below_setRow qb (show w.heap.size ≤ w.heap.size + 2 by omega) #[.string (strOfNums p), .int .i64 15]
  clear q0 q1 q2 qb r0 r1 ab hc0
  rw [hsz.out]
  generalize (w1.alloc (.cells #[.string ByteArray.empty, .int .i64 0] 179)).setRow (w.heap.size + 2) #[.string (strOfNums p), .int .i64 15] = w2 at a0 a1 a2 abb ⊢
  go_upto_region 3 with (first
    | (refine load_row rfl 34 (.tmp 3) rfl w.heap.size rfl 34 (bs p) a0 224 5 Try.underlying34 size34 hpb ?_)
    | (go_at_call 12; refine (HLSN.out _).mono ?_; clear HLSN; rintro e w3 ⟨rfl, h3⟩
       have b0 := (a0.below h3 a0.lt).alloc (.cells #[.int .u64 0, .slice none 0 0] 103)
       have b1 := (a1.below h3 a1.lt).alloc (.cells #[.int .u64 0, .slice none 0 0] 103)
       have b2 := (a2.below h3 a2.lt).alloc (.cells #[.int .u64 0, .slice none 0 0] 103)
       have b3 : Row (w3.alloc (.cells #[.int .u64 0, .slice none 0 0] 103)) w3.heap.size #[.int .u64 0, .slice none 0 0] 103 := Row.new _ _ _
       have bb0 : Below w.heap.size w w3 := abb.trans (h3.mono abb.size)
       have bb : Below w.heap.size w (w3.alloc (.cells #[.int .u64 0, .slice none 0 0] 103)) := bb0.alloc bb0.size _
       have hl3 : w.heap.size + 2 < w3.heap.size := (a2.below h3 a2.lt).lt)
    | (refine build_one rfl 103 (.tmp 14) rfl _ rfl _ (built44one lsn) ?_)
    | (refine store_cells rfl 103 (.tmp 7) (.tmp 15) rfl w3.heap.size #[.int .u64 lsn, .slice none 0 0] rfl rfl 103 _ b3 2 size103 rfl rfl (by simp [Value.oneCell']) ?_))
  have c0 := b0.other (g := w3.heap.size) (by omega) #[.int .u64 lsn, .slice none 0 0]
  have c1 := b1.other (g := w3.heap.size) (by omega) #[.int .u64 lsn, .slice none 0 0]
  have c2 := b2.other (g := w3.heap.size) (by omega) #[.int .u64 lsn, .slice none 0 0]
  have c3 := b3.set #[.int .u64 lsn, .slice none 0 0]
  have cb := below_setRow bb bb0.size #[.int .u64 lsn, .slice none 0 0]
  have hgd := bb0.size
  clear a0 a1 a2 abb b0 b1 b2 b3 bb bb0 h3 hsz
  generalize (w3.alloc (.cells #[.int .u64 0, .slice none 0 0] 103)).setRow w3.heap.size #[.int .u64 lsn, .slice none 0 0] = w4 at c0 c1 c2 c3 cb ⊢
  generalize w3.heap.size = gu at c3 hl3 hgd ⊢
  go_wp2_with (go_at_call 97; refine (HN1.out _ _ c2).mono ?_; clear HN1; rintro e w5 ⟨rfl, k2, o5⟩)
  have L0 : LoopU w w5 gu p lsn (.slice none 0 0) 0 := ⟨c0.off o5 (by omega), c1.off o5 (by omega), k2, c3.off o5 (by omega), ⟨rfl, Or.inl ⟨rfl, rfl⟩⟩, cb.trans (o5.below cb.size (fun k q => by omega))⟩
  clear c0 c1 c2 c3 cb o5 k2
  go_loopw [17] (fun i wr => ∃ (k : Nat) (v : Value), k ≤ n ∧ i = .int .u64 k ∧ LoopU w wr gu p lsn v k) (fun i _ => n - (intOf i).toNat)
  case atStart => exact ⟨0, _, by omega, rfl, L0⟩
  case round =>
    clear L0
    obtain ⟨k, v, hk, rfl, L⟩ := hrel
    by_cases hkn : k < n
    · have hkn' : (k : Int) < (n : Int) := by omega
      have hle := readO_le p 16 k
      have hlen := readO_length p 16 k
      have hO := HOLD.out (w.heap.size + 2) (readO p 16 k).2
      have HOO : Hid _ := fun w h => hO w h (by omega)
      clear hO
      have HS1 : Hid ((readO p 16 (k + 1)).1 = (readO p 16 k).1 ++ [oAt p (readO p 16 k).2]) := rfl
      have HS2 : Hid ((readO p 16 (k + 1)).2 = oNext p (readO p 16 k).2) := rfl
      obtain ⟨l0, l1, l2, l3, lo, lb⟩ := L
      generalize (readO p 16 k).1 = os at lo HS1 hlen
      generalize (readO p 16 k).2 = at0 at l2 HOO HS1 HS2
      generalize oAt p at0 = o1 at HOO HS1
      generalize oNext p at0 = at1 at HOO HS2
      obtain ⟨live, pg, ts, np, ns, dl⟩ := o1
      go_upto_region 5 with fail
      have l2 : Row wr.drew (w.heap.size + 2) #[.string (strOfNums p), .int .i64 at0] 179 := l2
      have l3 : Row wr.drew gu #[.int .u64 lsn, v] 103 := l3
      have lo : Own wr.drew (gu + 1) v os := lo
      refine wp_region_held_drew (S := fun w' => Row w' w.heap.size (bs p) 34 ∧ Row w' (w.heap.size + 1) #[.int .u64 0, .slice none 0 0] 103 ∧ Below w.heap.size w w') (by kernel_rfl) ⟨l0, l1, lb.drew⟩ fun hS => ?_
      clear l0 l1 lb
      refine tkI (i := 0) (v := .pointer (some ⟨gu, 1, none⟩)) rfl (Or.inl ⟨by rfl, fun w _ => by go_simp⟩) hS ?_
      try simp only [Act.put, nz]
      refine wpAnyH_ready (rs := [1, 2]) (by kernel_rfl) (by simp) ?_
      exact (AllReadyH.cons rfl (fun K hK => by
            have c1 := row_at l3 1 _ rfl
            go_simp
            clear c1
            refine hK.out _ _ hS fun hS => ?_
            try simp only [Act.put, nz]
            refine wpAnyH_ready (rs := [2]) (by kernel_rfl) (by simp) ?_
            exact (AllReadyH.cons rfl (fun K hK => by
                go_simp
                go_at_call 98
                refine (HOO.out _ l2).mono ?_
                rintro e wc ⟨rfl, l2, oc⟩
                have l3 := l3.off oc (show ¬ gu = w.heap.size + 2 by omega)
                have lo := lo.offRow oc (by omega)
                refine hK.out _ _ ⟨hS.1.off oc (by omega), hS.2.1.off oc (by omega), hS.2.2.trans (oc.below hS.2.2.size (fun k q => by omega))⟩ fun hS => ?_
                try simp only [Act.put, nz]
                clear oc HOO
                refine wpAnyH_ready (rs := [3]) (by kernel_rfl) (by simp) ?_
                exact (AllReadyH.cons rfl (fun K hK => by
                    have hgul := l3.lt
                    have l4 : Row (wc.alloc (.cells #[.bool live, .int .u16 pg, .int .u32 ts, .int .u16 np, .int .u8 ns, .string dl] 130)) wc.heap.size #[.bool live, .int .u16 pg, .int .u32 ts, .int .u16 np, .int .u8 ns, .string dl] 130 := Row.new _ _ _
                    have l2 := l2.alloc (.cells #[.bool live, .int .u16 pg, .int .u32 ts, .int .u16 np, .int .u8 ns, .string dl] 130)
                    have l3 := l3.alloc (.cells #[.bool live, .int .u16 pg, .int .u32 ts, .int .u16 np, .int .u8 ns, .string dl] 130)
                    have lo := lo.alloc (.cells #[.bool live, .int .u16 pg, .int .u32 ts, .int .u16 np, .int .u8 ns, .string dl] 130)
                    have hws : gu + 1 ≤ (wc.alloc (.cells #[.bool live, .int .u16 pg, .int .u32 ts, .int .u16 np, .int .u8 ns, .string dl] 130)).heap.size := by simp; omega
                    simp only [O.arr]
                    go_simp
                    refine hK.out _ _ ⟨hS.1.alloc _, hS.2.1.alloc _, hS.2.2.alloc hS.2.2.size _⟩ fun hS => ?_
                    try simp only [Act.put, nz]
                    generalize wc.alloc (.cells #[.bool live, .int .u16 pg, .int .u32 ts, .int .u16 np, .int .u8 ns, .string dl] 130) = wb at l2 l3 l4 lo hS hws ⊢
                    generalize wc.heap.size = X at l4 ⊢
                    have hr := fun ty => lo.snocP ty X ⟨live, pg, ts, np, ns, dl⟩ l4 hws (by omega)
                    have hbk := lo.blk
                    refine wpAnyH_ready (rs := [4]) (by kernel_rfl) (by simp) ?_
                    exact (AllReadyH.cons rfl (fun K hK => step_of rfl (wp_copy (.tmp 20) (.tmp 22) 101 rfl v (.slice (some ⟨X, 0, none⟩) 1 1) rfl rfl (T := fun v' w' => Own w' (gu + 1) v' (os ++ [⟨live, pg, ts, np, ns, dl⟩]) ∧ wb.grownBy w' v.ownBlock) (fun ty => hr ty) (by
                      rintro v2 w7 ⟨lo, gr⟩
                      obtain ⟨oa2, cap2, e2⟩ := lo.form
                      generalize (os ++ [(⟨live, pg, ts, np, ns, dl⟩ : O)]).length = m2 at e2
                      subst e2
                      have hne : ∀ k, k ≤ gu → v.ownBlock ≠ some k := fun k hk q => by have := hbk k q; omega
                      have l2 := l2.grown gr (hne _ (by omega))
                      have l3 := l3.grown gr (hne _ (by omega))
                      have hw7 : Below w.heap.size w w7 := hS.2.2.grown gr hS.2.2.size (fun k q => by have := hbk k q; omega)
                      refine hK.out _ _ ⟨hS.1.grown gr (hne _ (by omega)), hS.2.1.grown gr (hne _ (by omega)), hw7⟩ fun hS => ?_
                      try simp only [Act.put, nz]
                      refine tkI (i := 5) (v := .pointer (some ⟨gu, 1, none⟩)) rfl (Or.inl ⟨by rfl, fun w _ => by go_simp⟩) hS ?_
                      try simp only [Act.put, nz]
                      refine wpAnyH_ready (rs := [6]) (by kernel_rfl) (by simp) ?_
                      exact (AllReadyH.cons rfl (fun K hK => by
                        have c1 := row_at l3 1 _ rfl
                        have f1 := row_frozen l3 1
                        go_simp
                        clear c1 f1
                        have l2 := row_setCell_other l2 (show w.heap.size + 2 ≠ gu by omega) 1 (.slice oa2 m2 cap2)
                        have l3 : Row (w7.setCell ⟨gu, 1, none⟩ (.slice oa2 m2 cap2)) gu #[.int .u64 lsn, .slice oa2 m2 cap2] 103 := row_set l3 1 (.slice oa2 m2 cap2)
                        have lo := lo.setAt ⟨gu, 1, none⟩ (by simp) (.slice oa2 m2 cap2)
                        refine hK.out _ _ ⟨row_setCell_other hS.1 (by omega) 1 (.slice oa2 m2 cap2), row_setCell_other hS.2.1 (by omega) 1 (.slice oa2 m2 cap2), hS.2.2.setCell (p := ⟨gu, 1, none⟩) (show w.heap.size ≤ gu by omega) (.slice oa2 m2 cap2)⟩ fun hS => ?_
                        try simp only [Act.put, nz]
                        refine wpAnyH_done (by kernel_rfl) ?_ _
                        go_wp2
                        go_roundw
                        case rel => exact ⟨k + 1, _, by omega, by go_num, ⟨hS.1, hS.2.1, by rw [HS2.out]; exact l2, l3, by rw [HS1.out]; exact lo, hS.2.2⟩⟩
                        case measure => simp [intOf]; omega
                      ) AllReadyH.nil)
                    ))) AllReadyH.nil)
                  ) AllReadyH.nil)
              ) AllReadyH.nil)
          ) (AllReadyH.cons rfl (fun K hK => by
            go_simp
            go_at_call 98
            refine (HOO.out _ l2).mono ?_
            rintro e wc ⟨rfl, l2, oc⟩
            have l3 := l3.off oc (show ¬ gu = w.heap.size + 2 by omega)
            have lo := lo.offRow oc (by omega)
            refine hK.out _ _ ⟨hS.1.off oc (by omega), hS.2.1.off oc (by omega), hS.2.2.trans (oc.below hS.2.2.size (fun k q => by omega))⟩ fun hS => ?_
            try simp only [Act.put, nz]
            clear oc HOO
            refine wpAnyH_ready (rs := [1, 3]) (by kernel_rfl) (by simp) ?_
            exact (AllReadyH.cons rfl (fun K hK => by
                have c1 := row_at l3 1 _ rfl
                go_simp
                clear c1
                refine hK.out _ _ hS fun hS => ?_
                try simp only [Act.put, nz]
                refine wpAnyH_ready (rs := [3]) (by kernel_rfl) (by simp) ?_
                exact (AllReadyH.cons rfl (fun K hK => by
                    have hgul := l3.lt
                    have l4 : Row (wc.alloc (.cells #[.bool live, .int .u16 pg, .int .u32 ts, .int .u16 np, .int .u8 ns, .string dl] 130)) wc.heap.size #[.bool live, .int .u16 pg, .int .u32 ts, .int .u16 np, .int .u8 ns, .string dl] 130 := Row.new _ _ _
                    have l2 := l2.alloc (.cells #[.bool live, .int .u16 pg, .int .u32 ts, .int .u16 np, .int .u8 ns, .string dl] 130)
                    have l3 := l3.alloc (.cells #[.bool live, .int .u16 pg, .int .u32 ts, .int .u16 np, .int .u8 ns, .string dl] 130)
                    have lo := lo.alloc (.cells #[.bool live, .int .u16 pg, .int .u32 ts, .int .u16 np, .int .u8 ns, .string dl] 130)
                    have hws : gu + 1 ≤ (wc.alloc (.cells #[.bool live, .int .u16 pg, .int .u32 ts, .int .u16 np, .int .u8 ns, .string dl] 130)).heap.size := by simp; omega
                    simp only [O.arr]
                    go_simp
                    refine hK.out _ _ ⟨hS.1.alloc _, hS.2.1.alloc _, hS.2.2.alloc hS.2.2.size _⟩ fun hS => ?_
                    try simp only [Act.put, nz]
                    generalize wc.alloc (.cells #[.bool live, .int .u16 pg, .int .u32 ts, .int .u16 np, .int .u8 ns, .string dl] 130) = wb at l2 l3 l4 lo hS hws ⊢
                    generalize wc.heap.size = X at l4 ⊢
                    have hr := fun ty => lo.snocP ty X ⟨live, pg, ts, np, ns, dl⟩ l4 hws (by omega)
                    have hbk := lo.blk
                    refine wpAnyH_ready (rs := [4]) (by kernel_rfl) (by simp) ?_
                    exact (AllReadyH.cons rfl (fun K hK => step_of rfl (wp_copy (.tmp 20) (.tmp 22) 101 rfl v (.slice (some ⟨X, 0, none⟩) 1 1) rfl rfl (T := fun v' w' => Own w' (gu + 1) v' (os ++ [⟨live, pg, ts, np, ns, dl⟩]) ∧ wb.grownBy w' v.ownBlock) (fun ty => hr ty) (by
                      rintro v2 w7 ⟨lo, gr⟩
                      obtain ⟨oa2, cap2, e2⟩ := lo.form
                      generalize (os ++ [(⟨live, pg, ts, np, ns, dl⟩ : O)]).length = m2 at e2
                      subst e2
                      have hne : ∀ k, k ≤ gu → v.ownBlock ≠ some k := fun k hk q => by have := hbk k q; omega
                      have l2 := l2.grown gr (hne _ (by omega))
                      have l3 := l3.grown gr (hne _ (by omega))
                      have hw7 : Below w.heap.size w w7 := hS.2.2.grown gr hS.2.2.size (fun k q => by have := hbk k q; omega)
                      refine hK.out _ _ ⟨hS.1.grown gr (hne _ (by omega)), hS.2.1.grown gr (hne _ (by omega)), hw7⟩ fun hS => ?_
                      try simp only [Act.put, nz]
                      refine tkI (i := 5) (v := .pointer (some ⟨gu, 1, none⟩)) rfl (Or.inl ⟨by rfl, fun w _ => by go_simp⟩) hS ?_
                      try simp only [Act.put, nz]
                      refine wpAnyH_ready (rs := [6]) (by kernel_rfl) (by simp) ?_
                      exact (AllReadyH.cons rfl (fun K hK => by
                        have c1 := row_at l3 1 _ rfl
                        have f1 := row_frozen l3 1
                        go_simp
                        clear c1 f1
                        have l2 := row_setCell_other l2 (show w.heap.size + 2 ≠ gu by omega) 1 (.slice oa2 m2 cap2)
                        have l3 : Row (w7.setCell ⟨gu, 1, none⟩ (.slice oa2 m2 cap2)) gu #[.int .u64 lsn, .slice oa2 m2 cap2] 103 := row_set l3 1 (.slice oa2 m2 cap2)
                        have lo := lo.setAt ⟨gu, 1, none⟩ (by simp) (.slice oa2 m2 cap2)
                        refine hK.out _ _ ⟨row_setCell_other hS.1 (by omega) 1 (.slice oa2 m2 cap2), row_setCell_other hS.2.1 (by omega) 1 (.slice oa2 m2 cap2), hS.2.2.setCell (p := ⟨gu, 1, none⟩) (show w.heap.size ≤ gu by omega) (.slice oa2 m2 cap2)⟩ fun hS => ?_
                        try simp only [Act.put, nz]
                        refine wpAnyH_done (by kernel_rfl) ?_ _
                        go_wp2
                        go_roundw
                        case rel => exact ⟨k + 1, _, by omega, by go_num, ⟨hS.1, hS.2.1, by rw [HS2.out]; exact l2, l3, by rw [HS1.out]; exact lo, hS.2.2⟩⟩
                        case measure => simp [intOf]; omega
                      ) AllReadyH.nil)
                    ))) AllReadyH.nil)
                  ) AllReadyH.nil)
              ) (AllReadyH.cons rfl (fun K hK => by
                have hgul := l3.lt
                have l4 : Row (wc.alloc (.cells #[.bool live, .int .u16 pg, .int .u32 ts, .int .u16 np, .int .u8 ns, .string dl] 130)) wc.heap.size #[.bool live, .int .u16 pg, .int .u32 ts, .int .u16 np, .int .u8 ns, .string dl] 130 := Row.new _ _ _
                have l2 := l2.alloc (.cells #[.bool live, .int .u16 pg, .int .u32 ts, .int .u16 np, .int .u8 ns, .string dl] 130)
                have l3 := l3.alloc (.cells #[.bool live, .int .u16 pg, .int .u32 ts, .int .u16 np, .int .u8 ns, .string dl] 130)
                have lo := lo.alloc (.cells #[.bool live, .int .u16 pg, .int .u32 ts, .int .u16 np, .int .u8 ns, .string dl] 130)
                have hws : gu + 1 ≤ (wc.alloc (.cells #[.bool live, .int .u16 pg, .int .u32 ts, .int .u16 np, .int .u8 ns, .string dl] 130)).heap.size := by simp; omega
                simp only [O.arr]
                go_simp
                refine hK.out _ _ ⟨hS.1.alloc _, hS.2.1.alloc _, hS.2.2.alloc hS.2.2.size _⟩ fun hS => ?_
                try simp only [Act.put, nz]
                generalize wc.alloc (.cells #[.bool live, .int .u16 pg, .int .u32 ts, .int .u16 np, .int .u8 ns, .string dl] 130) = wb at l2 l3 l4 lo hS hws ⊢
                generalize wc.heap.size = X at l4 ⊢
                refine wpAnyH_ready (rs := [1]) (by kernel_rfl) (by simp) ?_
                exact (AllReadyH.cons rfl (fun K hK => by
                    have c1 := row_at l3 1 _ rfl
                    go_simp
                    clear c1
                    refine hK.out _ _ hS fun hS => ?_
                    try simp only [Act.put, nz]
                    have hr := fun ty => lo.snocP ty X ⟨live, pg, ts, np, ns, dl⟩ l4 hws (by omega)
                    have hbk := lo.blk
                    refine wpAnyH_ready (rs := [4]) (by kernel_rfl) (by simp) ?_
                    exact (AllReadyH.cons rfl (fun K hK => step_of rfl (wp_copy (.tmp 20) (.tmp 22) 101 rfl v (.slice (some ⟨X, 0, none⟩) 1 1) rfl rfl (T := fun v' w' => Own w' (gu + 1) v' (os ++ [⟨live, pg, ts, np, ns, dl⟩]) ∧ wb.grownBy w' v.ownBlock) (fun ty => hr ty) (by
                      rintro v2 w7 ⟨lo, gr⟩
                      obtain ⟨oa2, cap2, e2⟩ := lo.form
                      generalize (os ++ [(⟨live, pg, ts, np, ns, dl⟩ : O)]).length = m2 at e2
                      subst e2
                      have hne : ∀ k, k ≤ gu → v.ownBlock ≠ some k := fun k hk q => by have := hbk k q; omega
                      have l2 := l2.grown gr (hne _ (by omega))
                      have l3 := l3.grown gr (hne _ (by omega))
                      have hw7 : Below w.heap.size w w7 := hS.2.2.grown gr hS.2.2.size (fun k q => by have := hbk k q; omega)
                      refine hK.out _ _ ⟨hS.1.grown gr (hne _ (by omega)), hS.2.1.grown gr (hne _ (by omega)), hw7⟩ fun hS => ?_
                      try simp only [Act.put, nz]
                      refine tkI (i := 5) (v := .pointer (some ⟨gu, 1, none⟩)) rfl (Or.inl ⟨by rfl, fun w _ => by go_simp⟩) hS ?_
                      try simp only [Act.put, nz]
                      refine wpAnyH_ready (rs := [6]) (by kernel_rfl) (by simp) ?_
                      exact (AllReadyH.cons rfl (fun K hK => by
                        have c1 := row_at l3 1 _ rfl
                        have f1 := row_frozen l3 1
                        go_simp
                        clear c1 f1
                        have l2 := row_setCell_other l2 (show w.heap.size + 2 ≠ gu by omega) 1 (.slice oa2 m2 cap2)
                        have l3 : Row (w7.setCell ⟨gu, 1, none⟩ (.slice oa2 m2 cap2)) gu #[.int .u64 lsn, .slice oa2 m2 cap2] 103 := row_set l3 1 (.slice oa2 m2 cap2)
                        have lo := lo.setAt ⟨gu, 1, none⟩ (by simp) (.slice oa2 m2 cap2)
                        refine hK.out _ _ ⟨row_setCell_other hS.1 (by omega) 1 (.slice oa2 m2 cap2), row_setCell_other hS.2.1 (by omega) 1 (.slice oa2 m2 cap2), hS.2.2.setCell (p := ⟨gu, 1, none⟩) (show w.heap.size ≤ gu by omega) (.slice oa2 m2 cap2)⟩ fun hS => ?_
                        try simp only [Act.put, nz]
                        refine wpAnyH_done (by kernel_rfl) ?_ _
                        go_wp2
                        go_roundw
                        case rel => exact ⟨k + 1, _, by omega, by go_num, ⟨hS.1, hS.2.1, by rw [HS2.out]; exact l2, l3, by rw [HS1.out]; exact lo, hS.2.2⟩⟩
                        case measure => simp [intOf]; omega
                      ) AllReadyH.nil)
                    ))) AllReadyH.nil)
                  ) AllReadyH.nil)
              ) AllReadyH.nil))
          ) AllReadyH.nil))
    · obtain rfl : k = n := by omega
      have hkn' : ¬ (k : Int) < (k : Int) := by omega
      obtain ⟨l0, l1, l2, l3, lo, lb⟩ := L
      have HU : Hid (uOf p = (readO p 16 k).1) := by show _ = _; unfold uOf; rw [HN.out]
      have hfit := readO_fits p 16 k
      generalize (readO p 16 k).1 = os at lo HU hfit
      obtain ⟨oa, cap, rfl⟩ := lo.form
      obtain ⟨m, Hm⟩ : ∃ m, Hid (os.length = m) := ⟨_, rfl⟩
      rw [Hm.out] at lo l3
      have HP : Hid _ := fun w (h : Olds w (.slice oa m cap) os) => putUndo_any no lsn (.slice oa m cap) os w h hfit hno (by omega)
      have hRl := putU_length no lsn os
      have hRb := putU_bytes no lsn os
      have HIS : Hid (isU no p = (decide (may os = true) && decide (putU no lsn os = p))) := by show _ = _; unfold isU; rw [HU.out, HL.out]
      have HE : Hid (errU os = if may os = true then 0 else 1) := rfl
      have heq := equal34 (putU no lsn os) p hRl hp
      obtain ⟨R, HR⟩ : ∃ R, Hid (putU no lsn os = R) := ⟨_, rfl⟩
      rw [HR.out] at HP hRl hRb HIS heq
      obtain ⟨E, HEE⟩ : ∃ R, Hid (errU os = R) := ⟨_, rfl⟩
      rw [HEE.out] at HP HE
      have hRs : (bs R).size = 224 := by rw [bs_size, hRl]
      have hzp := zero34
      go_upto_region 8 with (first
        | (refine load_cells rfl 103 (.tmp 7) rfl gu rfl 103 #[.int .u64 lsn, .slice oa m cap] l3 2 Try.underlying103 rfl size103 rfl ?_)
        | (go_at_call 43; refine (HP.out _ lo.olds).mono ?_; clear HP; rintro e w7 ⟨rfl, h7⟩
           have x0 : Row (w7.alloc (.cells (bs (zs 224)) 34)) w7.heap.size (bs (zs 224)) 34 := Row.new _ _ _)
        | (refine store_row rfl 34 (.tmp 8) (.tmp 30) rfl w7.heap.size R rfl rfl 34 _ x0 224 size34 (by rw [bs_size, zs_length]) hRl ?_))
      have m0 := l0.below h7 l0.lt
      have m1 := l1.below h7 l1.lt
      have m3 := l3.below h7 l3.lt
      have mo : Own w7 (gu + 1) (.slice oa m cap) os := lo.keep h7
      have mb : Below w.heap.size w w7 := lb.trans (h7.mono lb.size)
      have hlt0 := m0.lt
      have hlt1 := m1.lt
      have hlt3 := m3.lt
      have n0 := (m0.alloc (.cells (bs (zs 224)) 34)).other (g := w7.heap.size) (by omega) (bs R)
      have n1 := (m1.alloc (.cells (bs (zs 224)) 34)).other (g := w7.heap.size) (by omega) (bs R)
      have n3 := (m3.alloc (.cells (bs (zs 224)) 34)).other (g := w7.heap.size) (by omega) (bs R)
      have nx := x0.set (bs R)
      have nb := below_setRow (mb.alloc mb.size (.cells (bs (zs 224)) 34)) mb.size (bs R)
      have no1 : Own ((w7.alloc (.cells (bs (zs 224)) 34)).setRow w7.heap.size (bs R)) (gu + 1) (.slice oa m cap) os := mo.keep (below_setRow ((Below.refl _ _).alloc (Nat.le_refl _) _) (Nat.le_refl _) _)
      clear l0 l1 l2 l3 lo lb m0 m1 m3 mo mb x0 h7
      generalize (w7.alloc (.cells (bs (zs 224)) 34)).setRow w7.heap.size (bs R) = w8 at n0 n1 n3 nx nb no1 ⊢
      generalize w7.heap.size = gq at nx hlt0 hlt1 hlt3 ⊢
      cases hm : may os
      · have HI : Hid (isU no p = false) := by show _ = _; rw [HIS.out, hm]; rfl
        have hE : E = 1 := by have := HE.out; rw [hm] at this; exact this
        subst hE
        clear HIS HE hm heq
        go_wp2_with (first
          | (refine build_none rfl 103 rfl _ built103 ?_)
          | (refine store_cells rfl 103 (.tmp 4) (.tmp 39) rfl (w.heap.size + 1) #[.int .u64 0, .slice none 0 0] rfl rfl 103 _ n1 2 size103 rfl rfl (by simp [Value.oneCell']) ?_))
        refine bodyPost_ret (v := .tuple #[.agg #[.int .u64 0, .slice none 0 0], .int .i64 2]) ?_ rfl ⟨.slice none 0 0, by rw [HI.out]; rfl, by rw [HI.out]; exact Or.inl ⟨rfl, rfl⟩, below_setRow nb (by omega) _⟩
        exact ret_cell2 (fn := Try.f82) rfl _ _ (w.heap.size + 1) 103 #[.int .u64 0, .slice none 0 0] _ _ rfl rfl (n1.set _) Try.underlying103 rfl size103
      · have hE : E = 0 := by have := HE.out; rw [hm] at this; exact this
        subst hE
        have tk1 : Hid (1 = 1) := rfl
        have tk2 : Hid (1 = 1) := rfl
        by_cases hq : R = p
        · have HI : Hid (isU no p = true) := by show _ = _; rw [HIS.out, hm, decide_eq_true hq]; rfl
          rw [decide_eq_true hq] at heq
          have HQ : Hid _ := hq
          clear HIS HE hm hq
          go_wp2_with (first
            | (have hh := tk1; clear hh tk1; refine load_row_g rfl 34 (.tmp 8) rfl gq rfl 34 (bs R) nx 224 5 Try.underlying34 size34 hRs ?_)
            | (have hh := tk2; clear hh tk2; refine load_row_g rfl 34 (.tmp 3) rfl w.heap.size rfl 34 (bs p) n0 224 5 Try.underlying34 size34 hpb ?_)
            | (refine load_cells rfl 103 (.tmp 7) rfl gu rfl 103 #[.int .u64 lsn, .slice oa m cap] n3 2 Try.underlying103 rfl size103 rfl ?_)
            | (refine store_cells rfl 103 (.tmp 4) (.tmp 40) rfl (w.heap.size + 1) #[.int .u64 lsn, .slice oa m cap] rfl rfl 103 _ n1 2 size103 rfl rfl (by simp [Value.oneCell']) ?_))
          have hO : Olds (w8.setRow (w.heap.size + 1) #[.int .u64 lsn, .slice oa m cap]) (.slice oa m cap) os := (no1.setRow (w.heap.size + 1) (by omega) _).olds
          refine bodyPost_ret (v := .tuple #[.agg #[.int .u64 lsn, .slice oa m cap], .int .i64 0]) ?_ rfl ⟨.slice oa m cap, by rw [HI.out, HL.out]; rfl, by rw [HI.out, if_pos rfl, HU.out]; exact hO, below_setRow nb (by omega) _⟩
          exact ret_cell2 (fn := Try.f82) rfl _ _ (w.heap.size + 1) 103 #[.int .u64 lsn, .slice oa m cap] _ _ rfl rfl (n1.set _) Try.underlying103 rfl size103
        · have HI : Hid (isU no p = false) := by show _ = _; rw [HIS.out, hm, decide_eq_false hq]; rfl
          rw [decide_eq_false hq] at heq
          have HQ : Hid _ := hq
          clear HIS HE hm hq
          go_wp2_with (first
            | (have hh := tk1; clear hh tk1; refine load_row_g rfl 34 (.tmp 8) rfl gq rfl 34 (bs R) nx 224 5 Try.underlying34 size34 hRs ?_)
            | (have hh := tk2; clear hh tk2; refine load_row_g rfl 34 (.tmp 3) rfl w.heap.size rfl 34 (bs p) n0 224 5 Try.underlying34 size34 hpb ?_)
            | (refine build_none rfl 103 rfl _ built103 ?_)
            | (refine store_cells rfl 103 (.tmp 4) (.tmp 39) rfl (w.heap.size + 1) #[.int .u64 0, .slice none 0 0] rfl rfl 103 _ n1 2 size103 rfl rfl (by simp [Value.oneCell']) ?_))
          refine bodyPost_ret (v := .tuple #[.agg #[.int .u64 0, .slice none 0 0], .int .i64 2]) ?_ rfl ⟨.slice none 0 0, by rw [HI.out]; rfl, by rw [HI.out]; exact Or.inl ⟨rfl, rfl⟩, below_setRow nb (by omega) _⟩
          exact ret_cell2 (fn := Try.f82) rfl _ _ (w.heap.size + 1) 103 #[.int .u64 0, .slice none 0 0] _ _ rfl rfl (n1.set _) Try.underlying103 rfl size103
theorem liveT_parts (o : O) (h : o.live = true) : oldT o = low 1 1 ++ (low o.page 2 ++ (low o.ts 4 ++ (low o.np 2 ++ (low o.ns 1 ++ (low o.delta.size 1 ++ nums o.delta))))) := by
  simp [oldT, h, liveT, refT, List.append_assoc]
theorem old_kind (o : O) (h : o.live = true) : (oldT o).getD 0 0 = 1 := by
  rw [liveT_parts o h, getD_left (by simp [low_length])]; simp [low]
theorem old_page (o : O) (h : o.live = true) (i : Nat) (hi : i < 2) : (oldT o).getD (1 + i) 0 = o.page / 2 ^ (8 * i) % 256 := by
  rw [liveT_parts o h, part_at _ _ _ 1 (by simp [low_length]) i (by rw [low_length]; exact hi), low_getD _ _ _ hi]
theorem old_ts (o : O) (h : o.live = true) (i : Nat) (hi : i < 4) : (oldT o).getD (3 + i) 0 = o.ts / 2 ^ (8 * i) % 256 := by
  have e : oldT o = (low 1 1 ++ low o.page 2) ++ (low o.ts 4 ++ (low o.np 2 ++ (low o.ns 1 ++ (low o.delta.size 1 ++ nums o.delta)))) := by rw [liveT_parts o h]; simp [List.append_assoc]
  rw [e, part_at _ _ _ 3 (by simp [low_length]) i (by rw [low_length]; exact hi), low_getD _ _ _ hi]
theorem old_np (o : O) (h : o.live = true) (i : Nat) (hi : i < 2) : (oldT o).getD (7 + i) 0 = o.np / 2 ^ (8 * i) % 256 := by
  have e : oldT o = (low 1 1 ++ (low o.page 2 ++ low o.ts 4)) ++ (low o.np 2 ++ (low o.ns 1 ++ (low o.delta.size 1 ++ nums o.delta))) := by rw [liveT_parts o h]; simp [List.append_assoc]
  rw [e, part_at _ _ _ 7 (by simp [low_length]) i (by rw [low_length]; exact hi), low_getD _ _ _ hi]
theorem old_ns (o : O) (h : o.live = true) (i : Nat) (hi : i < 1) : (oldT o).getD (9 + i) 0 = o.ns / 2 ^ (8 * i) % 256 := by
  have e : oldT o = (low 1 1 ++ (low o.page 2 ++ (low o.ts 4 ++ low o.np 2))) ++ (low o.ns 1 ++ (low o.delta.size 1 ++ nums o.delta)) := by rw [liveT_parts o h]; simp [List.append_assoc]
  rw [e, part_at _ _ _ 9 (by simp [low_length]) i (by rw [low_length]; exact hi), low_getD _ _ _ hi]
theorem old_size (o : O) (h : o.live = true) (i : Nat) (hi : i < 1) : (oldT o).getD (10 + i) 0 = (o.delta.size : Int) / 2 ^ (8 * i) % 256 := by
  have e : oldT o = (low 1 1 ++ (low o.page 2 ++ (low o.ts 4 ++ (low o.np 2 ++ low o.ns 1)))) ++ (low o.delta.size 1 ++ nums o.delta) := by rw [liveT_parts o h]; simp [List.append_assoc]
  rw [e, part_at _ _ _ 10 (by simp [low_length]) i (by rw [low_length]; exact hi), low_getD _ _ _ hi]
theorem old_delta (o : O) (h : o.live = true) (i : Nat) : (oldT o).getD (11 + i) 0 = (nums o.delta).getD i 0 := by
  have e : oldT o = (low 1 1 ++ (low o.page 2 ++ (low o.ts 4 ++ (low o.np 2 ++ (low o.ns 1 ++ low o.delta.size 1))))) ++ nums o.delta := by rw [liveT_parts o h]; simp [List.append_assoc]
  rw [e, getD_right (by simp [low_length])]
  congr 1
  simp [low_length]
theorem oAt_of (p : List Int) (hp : Bytes p) (a : Nat) (o : O) (hf : o.Fits) (hk : okO o = true) (hl : a + (oldT o).length ≤ p.length) (h : ∀ i, i < (oldT o).length → p.getD (a + i) 0 = (oldT o).getD i 0) :
    oAt p a = o ∧ oNext p a = a + (oldT o).length := by
  have hk' := hk
  unfold okO at hk'
  simp only [Bool.and_eq_true, Bool.or_eq_true, decide_eq_true_eq] at hk'
  cases hlv : o.live with
  | false =>
    have hz : o = O.zero := by rcases hk'.1 with q | q
                               · rw [hlv] at q; cases q
                               · exact q
    subst hz
    have hlen : (oldT O.zero).length = 1 := by rw [oldT_length]; rfl
    have e : getN (strOfNums p) a 1 = 0 := getN_tx hp 0 (by omega) a 1 (by omega) (by decide) fun i hi => by
      obtain rfl : i = 0 := by omega
      rw [h 0 (by omega)]; rfl
    unfold oAt oNext
    rw [e, if_pos rfl, if_pos rfl, hlen]
    exact ⟨rfl, rfl⟩
  | true =>
    have hlen : (oldT o).length = 11 + o.delta.size := by rw [oldT_length, hlv]; rfl
    rw [hlen] at h hl
    obtain ⟨f1, f2, f3, f4⟩ := hf
    have hd : o.delta.size ≤ 66 := hk'.2
    have e0 : getN (strOfNums p) a 1 = 1 := getN_tx hp 1 (by omega) a 1 (by omega) (by decide) fun i hi => by
      obtain rfl : i = 0 := by omega
      rw [h 0 (by omega), old_kind o hlv]; rfl
    have e1 : getN (strOfNums p) (a + 1) 2 = o.page := getN_tx hp _ f1.1 _ 2 (by omega) (by omega) fun i hi => by
      rw [Nat.add_assoc, h _ (by omega), old_page o hlv i hi]
    have e2 : getN (strOfNums p) (a + 3) 4 = o.ts := getN_tx hp _ f2.1 _ 4 (by omega) (by omega) fun i hi => by
      rw [Nat.add_assoc, h _ (by omega), old_ts o hlv i hi]
    have e3 : getN (strOfNums p) (a + 7) 2 = o.np := getN_tx hp _ f3.1 _ 2 (by omega) (by omega) fun i hi => by
      rw [Nat.add_assoc, h _ (by omega), old_np o hlv i hi]
    have e4 : getN (strOfNums p) (a + 9) 1 = o.ns := getN_tx hp _ f4.1 _ 1 (by omega) (by omega) fun i hi => by
      rw [Nat.add_assoc, h _ (by omega), old_ns o hlv i hi]
    have e5 : getN (strOfNums p) (a + 10) 1 = o.delta.size := getN_tx hp _ (by omega) _ 1 (by omega) (by omega) fun i hi => by
      rw [Nat.add_assoc, h _ (by omega), old_size o hlv i hi]
    have e6 : (p.drop (a + 11)).take o.delta.size = nums o.delta := by
      apply list_ext _ _ o.delta.size (by simp; omega) (nums_length _)
      intro i hi
      have := h (11 + i) (by omega)
      rw [old_delta o hlv] at this
      rw [← this]
      simp only [List.getD]
      rw [List.getElem?_take, if_pos hi, List.getElem?_drop, Nat.add_assoc]
    unfold oAt oNext
    rw [e0, e1, e2, e3, e4, e5, if_neg (by decide), if_neg (by decide), Int.toNat_natCast, e6, tx_nums, hlen]
    refine ⟨?_, by omega⟩
    cases o; simp_all
theorem oldsT_split (os : List O) (k : Nat) (o : O) (h : os[k]? = some o) : oldsT os = oldsT (os.take k) ++ (oldT o ++ oldsT (os.drop (k + 1))) := by
  have hk : k < os.length := (List.getElem?_eq_some_iff.1 h).1
  have e : os = os.take k ++ (o :: os.drop (k + 1)) := by
    have q := List.take_append_drop k os
    have q2 : os.drop k = o :: os.drop (k + 1) := by rw [List.drop_eq_getElem_cons hk]; congr 1; exact (List.getElem?_eq_some_iff.1 h).2
    rw [q2] at q; exact q.symm
  conv => lhs; rw [e]
  unfold oldsT
  rw [List.flatMap_append]; rfl
theorem readO_put (no lsn : Int) (os : List O) (hm : may os = true) (hf : ∀ o ∈ os, o.Fits) : ∀ k, k ≤ os.length → readO (payT 2 no lsn (undoT os)) 16 k = (os.take k, 16 + (oldsT (os.take k)).length)
  | 0, _ => by simp [readO, oldsT]
  | k + 1, hk => by
    have ih := readO_put no lsn os hm hf k (by omega)
    have hul := undoT_le os hm
    have hok := (may_small hm).2.2.1
    have he : os[k]? = some os[k] := by simp [show k < os.length by omega]
    have hmem : os[k] ∈ os := List.getElem_mem _
    have hsp := oldsT_split os k _ he
    have hlen : (undoT os).length = 1 + (oldsT (os.take k)).length + ((oldT os[k]).length + (oldsT (os.drop (k + 1))).length) := by
      unfold undoT
      rw [hsp]; simp [low_length]; omega
    have hat : ∀ i, i < (oldT os[k]).length → (payT 2 no lsn (undoT os)).getD (16 + (oldsT (os.take k)).length + i) 0 = (oldT os[k]).getD i 0 := by
      intro i hi
      rw [payT_at _ _ _ _ hul _ (by omega), show 16 + (oldsT (os.take k)).length + i = 15 + (1 + (oldsT (os.take k)).length + i) by omega, head_text]
      unfold undoT
      rw [hsp, ← List.append_assoc, part_at _ _ _ (1 + (oldsT (os.take k)).length) (by simp [low_length]) i hi]
    obtain ⟨h1, h2⟩ := oAt_of (payT 2 no lsn (undoT os)) (payT_bytes _ _ _ _ (undoT_bytes os)) (16 + (oldsT (os.take k)).length) os[k] (hf _ hmem) (hok _ hmem) (by rw [payT_length _ _ _ _ hul]; omega) hat
    show ((readO _ 16 k).1 ++ [oAt _ (readO _ 16 k).2], oNext _ (readO _ 16 k).2) = _
    rw [ih]
    simp only
    rw [h1, h2, oldsT_snoc os k _ he, List.take_add_one, he]
    simp; omega
theorem uOf_put (no lsn : Int) (os : List O) (hm : may os = true) (hf : ∀ o ∈ os, o.Fits) : uOf (payT 2 no lsn (undoT os)) = os := by
  have hul := undoT_le os hm
  have h15 := (may_small hm).1
  have hc : getN (strOfNums (payT 2 no lsn (undoT os))) 15 1 = os.length := getN_tx (payT_bytes _ _ _ _ (undoT_bytes os)) _ (by omega) 15 1 (by rw [payT_length _ _ _ _ hul]; omega) (by omega) fun i hi => by
    obtain rfl : i = 0 := by omega
    rw [payT_at _ _ _ _ hul _ (by omega), head_text]
    unfold undoT
    rw [getD_left (by rw [low_length]; omega), low_getD _ _ _ (by omega)]
  unfold uOf cntU
  rw [hc, Int.toNat_natCast, readO_put no lsn os hm hf _ (Nat.le_refl _), List.take_length]
theorem lsnOf_put (no lsn : Int) (os : List O) (hm : may os = true) (hl : 0 ≤ lsn ∧ lsn ≤ 18446744073709551615) : lsnOf (payT 2 no lsn (undoT os)) = lsn :=
  payT_lsn 2 no lsn _ (undoT_le os hm) (undoT_bytes os) hl
theorem putU_may (no lsn : Int) (os : List O) (hm : may os = true) : putU no lsn os = payT 2 no lsn (undoT os) := by unfold putU; rw [hm, if_pos rfl]
theorem isU_put (no on lsn : Int) (os : List O) (hm : may os = true) (hf : ∀ o ∈ os, o.Fits) (hl : 0 ≤ lsn ∧ lsn ≤ 18446744073709551615) (h1 : 0 ≤ no ∧ no ≤ 65535) (h2 : 0 ≤ on ∧ on ≤ 65535) :
    isU on (payT 2 no lsn (undoT os)) = decide (no = on) := by
  unfold isU
  rw [uOf_put no lsn os hm hf, lsnOf_put no lsn os hm hl, hm, putU_may _ _ _ hm]
  simp only [decide_true, Bool.true_and]
  apply decide_eq_decide.2
  constructor
  · intro h
    have q1 := payT_no 2 on lsn _ (undoT_le os hm) (undoT_bytes os) h2
    have q2 := payT_no 2 no lsn _ (undoT_le os hm) (undoT_bytes os) h1
    rw [h, q2] at q1
    exact q1
  · intro h; rw [h]
theorem isD_undo (no on lsn : Int) (os : List O) (hm : may os = true) : isD on (payT 2 no lsn (undoT os)) = false := by
  unfold isD
  apply decide_eq_false
  intro h
  have hp := payT_length 2 no lsn _ (undoT_le os hm)
  have hb := payT_bytes 2 no lsn _ (undoT_bytes os)
  have h1 := putD_kind on (dOf (payT 2 no lsn (undoT os))) (dOf_ok _ hp hb)
  rw [h, payT_at _ _ _ _ (undoT_le os hm) _ (by omega), head_kind] at h1
  simp at h1
theorem isU_data (no on : Int) (d : D) (hd : d.Ok) : isU on (putD no d) = false := by
  unfold isU
  cases hm : may (uOf (putD no d))
  · rfl
  · rw [Bool.and_eq_false_iff]
    right
    apply decide_eq_false
    intro h
    have h1 := putD_kind no d hd
    rw [← h] at h1
    unfold putU at h1
    rw [hm, if_pos rfl, payT_at _ _ _ _ (undoT_le _ hm) _ (by omega), head_kind] at h1
    simp at h1
end Go.Proofs.Ytehogiondcpbcaa
