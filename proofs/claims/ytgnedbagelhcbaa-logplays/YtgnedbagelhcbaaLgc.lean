/-
  Proved here: log.Scan.
-/
import Derived.Test.YtgnedbagelhcbaaLgp
namespace Go.Proofs.Ytgnedbagelhcbaa
open Go.ChangeShapes Go.WideShapes Go.ChangeAt Go.RowKit
set_option linter.unusedVariables false
set_option linter.unusedSimpArgs false
set_option maxRecDepth 20000
def chkO (b : List Int) : Ck.O := ⟨uE b, uN b, uO b, strOfNums (uL b)⟩
def scanF (a z fst : Int) : Nat → Int → Dsk → List Ck.O → List Ck.O × Int × Dsk
  | 0, _, d, acc => (acc, 0, d)
  | r + 1, i, d, acc =>
    if (read d (placeV a z (IntKind.u32.wrap (fst + i)))).2.1 = 0 then
      if isB (read d (placeV a z (IntKind.u32.wrap (fst + i)))).1 && decide (uN (read d (placeV a z (IntKind.u32.wrap (fst + i)))).1 = IntKind.u32.wrap (fst + i)) then
        scanF a z fst r (i + 1) (read d (placeV a z (IntKind.u32.wrap (fst + i)))).2.2 (acc ++ [chkO (read d (placeV a z (IntKind.u32.wrap (fst + i)))).1])
      else (acc, 0, (read d (placeV a z (IntKind.u32.wrap (fst + i)))).2.2)
    else ([], (read d (placeV a z (IntKind.u32.wrap (fst + i)))).2.1, (read d (placeV a z (IntKind.u32.wrap (fst + i)))).2.2)
theorem scanF_nil (a z fst i : Int) (d : Dsk) (acc : List Ck.O) : scanF a z fst 0 i d acc = (acc, 0, d) := rfl
theorem scanF_succ (a z fst : Int) (r : Nat) (i : Int) (d : Dsk) (acc : List Ck.O) (x : List Int) (e : Int) (d2 : Dsk) (h : read d (placeV a z (IntKind.u32.wrap (fst + i))) = (x, e, d2)) :
    scanF a z fst (r + 1) i d acc = if e = 0 then if isB x && decide (uN x = IntKind.u32.wrap (fst + i)) then scanF a z fst r (i + 1) d2 (acc ++ [chkO x]) else (acc, 0, d2) else ([], e, d2) := by
  rw [scanF, h]
def scanR (a z fst : Int) (d : Dsk) : List Ck.O × Int × Dsk := if okR a z d.n then scanF a z fst z.toNat 0 d [] else ([], 1, d)
def Scanned (w : World) (gd : Nat) (L : Loc) (N : Nat) (r : List Ck.O × Int × Dsk) (e : Ending) (w' : World) : Prop :=
  ∃ v, e = .returned (.tuple #[v, .int .i64 r.2.1]) ∧ Ck.Own w' w.heap.size v r.1 ∧ DAt w' gd r.2.2 L N ∧ Off (foot gd L) w w'
theorem read_fits {w : World} {g : Nat} {d : Dsk} {L : Loc} {N : Nat} (h : DAt w g d L N) (b : Int) : (read d b).1.length = 256 ∧ Bytes (read d b).1 := by
  unfold read
  split
  · rename_i e0
    obtain ⟨b1, b2, b3⟩ := ask_in e0
    show ((ask d b).2.seen b).length = 256 ∧ Bytes ((ask d b).2.seen b)
    rw [b3, count_seen]; exact Dsk.seen_length h b ⟨b1, b2⟩
  · exact ⟨zs_length _, zs_bytes _⟩
theorem read_ops (d : Dsk) (b : Int) : (read d b).2.2.ops ≤ d.ops + 1 := by
  have ha : (ask d b).2.ops ≤ d.ops + 1 := by
    unfold ask
    split
    · simp; omega
    · split
      · unfold count; split
        · simp
        · split <;> simp
      · simp; omega
  unfold read
  split
  · exact ha
  · exact ha
theorem OwnCk.nil (w : World) (base : Nat) : Ck.Own w base (.slice none 0 0) [] := ⟨rfl, Or.inl ⟨rfl, rfl⟩⟩
theorem Ck.Own.snocR {w : World} {base : Nat} {v : Value} {os : List Ck.O} (h : Ck.Own w base v os) (ty : TypeId) (X : Nat) (p : Ck.O) (hX : Row w X p.arr 65) (hb : base ≤ w.heap.size) (hn : os.length ≤ 1000000) :
    ∃ v' w', (Builtin.append_ #[47, 47] ty #[v, .slice (some ⟨X, 0, none⟩) 1 1]).run Try.prog w = .ok v' w' ∧ (Ck.Own w' base v' (os ++ [p]) ∧ w.grownBy w' v.ownBlock ∧ (v'.ownBlock = v.ownBlock ∨ v'.ownBlock = some w.heap.size)) := by
  obtain ⟨i, hi, hz, hs, hby⟩ := Ck.info_parts Ck.info65
  obtain ⟨v', w', hr, h2, h3, h4, h5⟩ := run_append_own_at (P := Try.prog) w base 47 ty 65 i _ 4 32 Try.underlying47 hi hz hs hby rfl (by decide) v os.length (Ck.flat os) h ⟨X, 0, none⟩ 1 1 p.cells rfl (fun j u hj => by rw [Addr.add_mid, Nat.zero_add, cell_of_row w X j _ _ _ hX, ← hj]; show p.cells.toArray[j]? = _; rw [List.getElem?_toArray]) (fun u hu => Ck.flat_one [p] u (by simpa [Ck.flat] using hu)) (by unfold maxLen; omega) (by omega) hb
  refine ⟨v', w', hr, ?_, h3, h5⟩
  unfold Ck.Own
  rw [Ck.flat_append, List.length_append]
  exact h2
theorem own_not98 {w : World} {base g : Nat} {v : Value} {os : List Ck.O} {cs : Array Value} (h : Ck.Own w base v os) (hb : v.ownBlock = some g) (hr : Row w g cs 98) : False := by
  rcases h.2 with ⟨rfl, _⟩ | ⟨g', cap, cur, rfl, _, hc, _⟩
  · cases hb
  · cases hb
    unfold Row at hr
    rw [hc] at hr
    simp at hr
set_option maxHeartbeats 8000000 in
theorem scan_any (w : World) (gd : Nat) (d : Dsk) (L : Loc) (N : Nat) (a z fst : Int) (hD : DAt w gd d L N) (hz : -9223372036854775808 ≤ z ∧ z ≤ 9223372036854775807) (hf : 0 ≤ fst ∧ fst ≤ 4294967295) (hop : d.ops + 3000 < 9223372036854775806) :
    Calls Try.prog 34 #[.pointer (some ⟨gd, 0, none⟩), .int .i64 a, .int .i64 z, .int .u32 fst] w fun e w' => Scanned w gd L N (scanR a z fst d) e w' := by
  obtain ⟨PP, HPP⟩ : ∃ PP : Ending → World → Prop, Hid (PP = fun e w' => Scanned w gd L N (scanR a z fst d) e w') := ⟨_, rfl⟩
  rw [← HPP.out]
  have hz98 := zero98
  have hz56 := zero56
  have hz65 := zero65
  have hn := hD.small
  have HFL : Hid (∀ j, foot gd L j → j < w.heap.size) := fun j hj => hD.lt hj
  have HRT : Hid (∀ wa, Below w.heap.size w wa → Calls Try.prog 42 #[.agg #[.pointer (some ⟨gd, 0, none⟩), .int .i64 a, .int .i64 z]] wa fun e w' => e = .returned (.bool (okR a z d.n)) ∧ Below wa.heap.size wa w') := fun wa hb => right_any _ a z d.n wa hz.2 (by omega) (fun wb hb' => size_any (hD.below (hb.trans (hb'.mono hb.size))))
  have q0 : Row (w.alloc (.cells #[.pointer none, .int .i64 0, .int .i64 0] 98)) w.heap.size #[.pointer none, .int .i64 0, .int .i64 0] 98 := Row.new _ _ _
  have qb : Below w.heap.size w (w.alloc (.cells #[.pointer none, .int .i64 0, .int .i64 0] 98)) := (Below.refl _ _).alloc (Nat.le_refl _) _
  go_enter Try.func34, Try.ntmps34
  go_upto_region 2 with (first
    | (refine build_parts rfl 98 #[(0, .tmp 18), (1, .tmp 19), (2, .tmp 20)] rfl [(0, .pointer (some ⟨gd, 0, none⟩)), (1, .int .i64 a), (2, .int .i64 z)] rfl _ (built98 _ a z) ?_)
    | (refine store_cells rfl 98 (.tmp 10) (.tmp 21) rfl w.heap.size #[.pointer (some ⟨gd, 0, none⟩), .int .i64 a, .int .i64 z] rfl rfl 98 _ q0 3 size98 rfl rfl (by simp [Value.oneCell']) ?_))
  have r0 := q0.set #[.pointer (some ⟨gd, 0, none⟩), .int .i64 a, .int .i64 z]
  have rb := below_setRow qb (Nat.le_refl _) #[.pointer (some ⟨gd, 0, none⟩), .int .i64 a, .int .i64 z]
  clear q0 qb
  generalize (w.alloc (.cells #[.pointer none, .int .i64 0, .int .i64 0] 98)).setRow w.heap.size #[.pointer (some ⟨gd, 0, none⟩), .int .i64 a, .int .i64 z] = w1 at r0 rb ⊢
  cases hk : okR a z d.n with
  | false =>
    have HK : Hid (∀ w', Below w.heap.size w w' → PP (.returned (.tuple #[.slice none 0 0, .int .i64 1])) w') := fun w' h => by
      have e1 : scanR a z fst d = ([], 1, d) := by unfold scanR; rw [hk]; rfl
      rw [HPP.out, e1]
      exact ⟨_, rfl, OwnCk.nil _ _, hD.below h, Off.of_below h⟩
    rw [hk] at HRT
    clear hk
    go_wp2_with (first
      | (refine load_cells rfl 98 (.tmp 10) rfl w.heap.size rfl 98 _ r0 3 Try.underlying98 rfl size98 rfl ?_)
      | (go_at_call 42; refine Calls.mono (HRT.out _ rb) ?_; clear HRT; rintro e w2 ⟨rfl, h2⟩))
    try go_ret
    first
      | exact HK.out _ (rb.trans (h2.mono rb.size))
      | exact rb.trans (h2.mono rb.size)
  | true =>
    have hb3 : 0 ≤ a ∧ 1 ≤ z ∧ a ≤ d.n - z := by have h := hk; unfold okR at h; simp only [Bool.and_eq_true, decide_eq_true_eq] at h; exact h
    have HSR : Hid (scanR a z fst d = scanF a z fst z.toNat 0 d []) := by show _ = _; unfold scanR; rw [hk]; rfl
    rw [hk] at HRT
    clear hk
    obtain ⟨Z, HZ⟩ : ∃ Z : Nat, Hid (z.toNat = Z) := ⟨_, rfl⟩
    have hzZ0 : z = (Z : Int) := by have := HZ.out; omega
    have hZ : Z ≤ 2048 := by omega
    have HZZ : Hid (z = (Z : Int)) := hzZ0
    have HB3 : Hid (0 ≤ a ∧ 1 ≤ z ∧ a ≤ d.n - z) := hb3
    clear hzZ0 hb3
    rw [HZ.out] at HSR
    go_upto_region 4 with (first
      | (refine load_cells rfl 98 (.tmp 10) rfl w.heap.size rfl 98 _ r0 3 Try.underlying98 rfl size98 rfl ?_)
      | (go_at_call 42; refine Calls.mono (HRT.out _ rb) ?_; clear HRT; rintro e w2 ⟨rfl, h2⟩
         have s0 := r0.below h2 r0.lt
         have sb := rb.trans (h2.mono rb.size)))
    have HI0 : Hid (DAt w2 gd d L N ∧ Off (foot gd L) w w2) := ⟨hD.below sb, Off.of_below sb⟩
    clear r0 rb sb h2 hD
    go_wp2
    go_loopw [11, 26] (fun li i wr => ∃ (k : Nat) (acc : List Ck.O) (dk : Dsk), k ≤ Z ∧ i = .int .i64 k ∧ acc.length = k ∧ Ck.Own wr w.heap.size li acc ∧ DAt wr gd dk L N ∧ Off (foot gd L) w wr ∧ Row wr w.heap.size #[.pointer (some ⟨gd, 0, none⟩), .int .i64 a, .int .i64 z] 98 ∧ dk.ops ≤ d.ops + k ∧ scanR a z fst d = scanF a z fst (Z - k) k dk acc) (fun _ i _ => Z - (intOf i).toNat)
    case atStart => exact ⟨0, [], d, by omega, rfl, rfl, OwnCk.nil _ _, HI0.out.1, HI0.out.2, s0, by omega, HSR.out⟩
    case round =>
      clear HI0 s0
      obtain ⟨k, acc, dk, hkZ, rfl, hal, hown, hD, hO, b0, hops, hsc⟩ := hrel
      obtain ⟨ob, cb, hv⟩ := hown.form
      subst hv
      rw [hal] at hown
      by_cases hkn : k < Z
      · have hzZ := HZZ.out
        have hb3 := HB3.out
        have hkn' : (k : Int) < z := by omega
        have v1 : IntKind.u32.wrap (k : Int) = k := by rw [IntKind.wrap_u32]; omega
        have hnum := wrap32 (fst + k)
        have hrf := read_fits hD (placeV a z (IntKind.u32.wrap (fst + k)))
        have hro := read_ops dk (placeV a z (IntKind.u32.wrap (fst + k)))
        have HPL : Hid (∀ w, Calls Try.prog 59 #[.agg #[.pointer (some ⟨gd, 0, none⟩), .int .i64 a, .int .i64 z], .int .u32 (IntKind.u32.wrap (fst + k))] w fun e w' => e = .returned (.int .i64 (placeV a z (IntKind.u32.wrap (fst + k)))) ∧ Below w.heap.size w w') := fun w => place_any _ _ _ _ w ⟨hb3.1, by omega⟩ ⟨hb3.2.1, by omega⟩ hnum
        have HRD : Hid (∀ wx, Below wr.heap.size wr wx → Calls Try.prog 58 #[.pointer (some ⟨gd, 0, none⟩), .int .i64 (placeV a z (IntKind.u32.wrap (fst + k)))] wx fun e w' => e = .returned (.tuple #[.agg (bs (read dk (placeV a z (IntKind.u32.wrap (fst + k)))).1), .int .i64 (read dk (placeV a z (IntKind.u32.wrap (fst + k)))).2.1]) ∧ DAt w' gd (read dk (placeV a z (IntKind.u32.wrap (fst + k)))).2.2 L N ∧ Off (foot gd L) wx w') := fun wx hb => read_any (hD.below hb) (by omega) _
        obtain ⟨r, hr⟩ : ∃ r, Z - k = r + 1 := ⟨Z - k - 1, by omega⟩
        have HST : Hid _ := fun x e d2 h => scanF_succ a z fst r (k : Int) dk acc x e d2 h
        have hrr : Z - (k + 1) = r := by omega
        rw [hr] at hsc
        generalize hrd : read dk (placeV a z (IntKind.u32.wrap (fst + k))) = rd at hrf hro HRD
        obtain ⟨B, E, d2⟩ := rd
        have hst := HST.out B E d2 hrd
        rw [hst] at hsc
        clear HST hst hrd
        simp only at hrf hro HRD
        have hBl := hrf.1
        have hBb : (bs B).size = 256 := by rw [bs_size]; exact hBl
        have HUN : Hid (∀ w, Calls Try.prog 60 #[.agg (bs B)] w fun ex w' => ex = .returned (.tuple #[.agg (gotC B), .bool (isB B)]) ∧ Below w.heap.size w w') := fun w => unpack_any B w hrf.1 hrf.2
        clear hzZ hb3
        generalize placeV a z (IntKind.u32.wrap (fst + k)) = PL at HPL HRD
        generalize hnn : IntKind.u32.wrap (fst + k) = num at HPL hsc hnum
        have HOW : Hid (∀ wx, Off (foot gd L) wr wx → Ck.Own wx w.heap.size (.slice ob k cb) acc) := fun wx o => hown.off o (fun j hj q => by have := HFL.out j q; have := (World.ownsRow.lt hown j hj).1; omega)
        go_upto_region 10 with (first
          | (refine load_cells rfl 98 (.tmp 10) rfl w.heap.size rfl 98 _ b0 3 Try.underlying98 rfl size98 rfl ?_)
          | (go_at_call 59; refine Calls.mono (HPL.out _) ?_; clear HPL; rintro e w5 ⟨rfl, h5⟩
             have c0 := b0.below h5 b0.lt)
          | (go_at_call 58; refine Calls.mono (HRD.out _ h5) ?_; clear HRD; rintro e w6 ⟨rfl, hD2, hO2⟩
             have hO3 : Off (foot gd L) wr w6 := (Off.of_below h5).trans hO2 (fun j q => Or.inl q)
             have s0 := (c0.off hO2 (fun q => by have := HFL.out _ q; omega)).alloc (.cells (bs (zs 256)) 56)
             have s14 : Row (w6.alloc (.cells (bs (zs 256)) 56)) w6.heap.size (bs (zs 256)) 56 := Row.new _ _ _
             have hl6 := (c0.off hO2 (fun q => by have := HFL.out _ q; omega)).lt
             have sb : Below w6.heap.size w6 (w6.alloc (.cells (bs (zs 256)) 56)) := (Below.refl _ _).alloc (Nat.le_refl _) _)
          | (refine store_row rfl 56 (.tmp 14) (.tmp 39) rfl w6.heap.size B rfl rfl 56 _ s14 256 size56 (by rw [bs_size, zs_length]) hBl ?_))
        have t0 := s0.other (g := w6.heap.size) (by omega) (bs B)
        have t14 := s14.set (bs B)
        have tb := below_setRow sb (Nat.le_refl _) (bs B)
        clear s0 s14 sb c0 b0 h5 hO2 hown hD
        generalize (w6.alloc (.cells (bs (zs 256)) 56)).setRow w6.heap.size (bs B) = w7 at t0 t14 tb ⊢
        have HO6 : Hid (Off (foot gd L) w w6) := hO.trans hO3 (fun j q => Or.inl q)
        by_cases hE : E = 0
        · have hE' : (E != 0) = false := by simp [hE]
          rw [if_pos hE] at hsc
          cases hB : isB B with
          | false =>
            have hgc : gotC B = #[.int .u32 0, .int .u32 0, .int .u64 0, .string ByteArray.empty] := by unfold gotC; rw [hB]; rfl
            rw [hB] at HUN hsc
            rw [hgc] at HUN
            have hsc2 : scanR a z fst d = (acc, 0, d2) := hsc
            clear hsc hgc hB
            obtain ⟨CC, HCC⟩ : ∃ x : Array Value, Hid ((#[.int .u32 0, .int .u32 0, .int .u64 0, .string ByteArray.empty] : Array Value) = x) := ⟨_, rfl⟩
            have hCC : CC.size = 4 ∧ CC.all (·.oneCell') = true := by rw [← HCC.out]; exact ⟨rfl, by simp [Value.oneCell']⟩
            rw [HCC.out] at HUN
            have HK : Hid (∀ w', Below w6.heap.size w6 w' → PP (.returned (.tuple #[.slice ob k cb, .int .i64 0])) w') := fun w' h => by
              rw [HPP.out, hsc2]
              exact ⟨_, rfl, (HOW.out w6 hO3).keep h, hD2.below h, HO6.out.trans (Off.of_below (F := fun _ => False) h) (fun _ q => q.elim)⟩
            clear hE hsc2 HPP
            go_upto_region 13 with (first
              | (refine load_row rfl 56 (.tmp 14) rfl w6.heap.size rfl 56 (bs B) t14 256 5 Try.underlying56 size56 hBb ?_)
              | (go_at_call 60; refine Calls.mono (HUN.out _) ?_; clear HUN; rintro e w8 ⟨rfl, h8⟩
                 have u0 := (t0.below h8 t0.lt).alloc (.cells #[.int .u32 0, .int .u32 0, .int .u64 0, .string ByteArray.empty] 65)
                 have u16 : Row (w8.alloc (.cells #[.int .u32 0, .int .u32 0, .int .u64 0, .string ByteArray.empty] 65)) w8.heap.size #[.int .u32 0, .int .u32 0, .int .u64 0, .string ByteArray.empty] 65 := Row.new _ _ _
                 have ub0 := tb.trans (h8.mono tb.size)
                 have ub := ub0.alloc ub0.size (.cells #[.int .u32 0, .int .u32 0, .int .u64 0, .string ByteArray.empty] 65)
                 have hl0 := (t0.below h8 t0.lt).lt)
              | (refine store_cells rfl 65 (.tmp 16) (.tmp 47) rfl w8.heap.size CC rfl rfl 65 _ u16 4 Ck.size65 rfl hCC.1 hCC.2 ?_))
            have v0 := u0.other (g := w8.heap.size) (by omega) CC
            have v16 := u16.set CC
            have vb := below_setRow ub ub0.size CC
            clear u0 u16 ub ub0 h8 t0 t14 tb
            generalize (w8.alloc (.cells #[.int .u32 0, .int .u32 0, .int .u64 0, .string ByteArray.empty] 65)).setRow w8.heap.size CC = w9 at v0 v16 vb ⊢
            generalize w8.heap.size = g16 at v16 hl0 ⊢
            go_wp2
            try go_ret
            first
              | exact HK.out _ vb
              | exact vb
          | true =>
            have hgc : gotC B = #[.int .u32 (uE B), .int .u32 (uN B), .int .u64 (uO B), .string (strOfNums (uL B))] := by unfold gotC; rw [hB]; rfl
            rw [hB] at HUN hsc
            rw [hgc] at HUN
            clear hgc hB
            have hsc1 : scanR a z fst d = if (true && decide (uN B = num)) = true then scanF a z fst r ((k : Int) + 1) d2 (acc ++ [⟨uE B, uN B, uO B, strOfNums (uL B)⟩]) else (acc, 0, d2) := hsc
            clear hsc
            generalize uE B = x0 at HUN hsc1
            generalize uN B = x1 at HUN hsc1
            generalize uO B = x2 at HUN hsc1
            generalize strOfNums (uL B) = x3 at HUN hsc1
            by_cases hN : x1 = num
            · rw [Bool.true_and, if_pos (decide_eq_true hN)] at hsc1
              have HSC : Hid _ := hsc1
              clear hE hsc1
              subst hN
              have hN' : (x1 != x1) = false := by simp
              go_upto_region 13 with (first
                | (refine load_row rfl 56 (.tmp 14) rfl w6.heap.size rfl 56 (bs B) t14 256 5 Try.underlying56 size56 hBb ?_)
                | (go_at_call 60; refine Calls.mono (HUN.out _) ?_; clear HUN; rintro e w8 ⟨rfl, h8⟩
                   have u0 := (t0.below h8 t0.lt).alloc (.cells #[.int .u32 0, .int .u32 0, .int .u64 0, .string ByteArray.empty] 65)
                   have u16 : Row (w8.alloc (.cells #[.int .u32 0, .int .u32 0, .int .u64 0, .string ByteArray.empty] 65)) w8.heap.size #[.int .u32 0, .int .u32 0, .int .u64 0, .string ByteArray.empty] 65 := Row.new _ _ _
                   have ub0 := tb.trans (h8.mono tb.size)
                   have ub := ub0.alloc ub0.size (.cells #[.int .u32 0, .int .u32 0, .int .u64 0, .string ByteArray.empty] 65)
                   have hl0 := (t0.below h8 t0.lt).lt)
                | (refine store_cells rfl 65 (.tmp 16) (.tmp 47) rfl w8.heap.size #[.int .u32 x0, .int .u32 x1, .int .u64 x2, .string x3] rfl rfl 65 _ u16 4 Ck.size65 rfl rfl (by simp [Value.oneCell']) ?_))
              have v0 := u0.other (g := w8.heap.size) (by omega) #[.int .u32 x0, .int .u32 x1, .int .u64 x2, .string x3]
              have v16 := u16.set #[.int .u32 x0, .int .u32 x1, .int .u64 x2, .string x3]
              have vb := below_setRow ub ub0.size #[.int .u32 x0, .int .u32 x1, .int .u64 x2, .string x3]
              clear u0 u16 ub ub0 h8 t0 t14 tb
              generalize (w8.alloc (.cells #[.int .u32 0, .int .u32 0, .int .u64 0, .string ByteArray.empty] 65)).setRow w8.heap.size #[.int .u32 x0, .int .u32 x1, .int .u64 x2, .string x3] = w9 at v0 v16 vb ⊢
              generalize w8.heap.size = g16 at v16 hl0 ⊢
              have c1 := row_at v16 1 _ rfl
              have hBl9 := vb.size
              have hO9 : Off (foot gd L) w w9 := HO6.out.trans (Off.of_below (F := fun _ => False) vb) (fun _ q => q.elim)
              have hws := hO9.size
              have ownA : Ck.Own w9 w.heap.size (.slice ob k cb) acc := (HOW.out w6 hO3).keep vb
              have ownB := ownA.alloc (.cells #[.int .u32 x0, .int .u32 x1, .int .u64 x2, .string x3] 65)
              have dB := (hD2.below vb).alloc (.cells #[.int .u32 x0, .int .u32 x1, .int .u64 x2, .string x3] 65)
              have rX : Row (w9.alloc (.cells #[.int .u32 x0, .int .u32 x1, .int .u64 x2, .string x3] 65)) w9.heap.size (Ck.O.arr ⟨x0, x1, x2, x3⟩) 65 := Row.new _ _ _
              have oB : Off (foot gd L) w (w9.alloc (.cells #[.int .u32 x0, .int .u32 x1, .int .u64 x2, .string x3] 65)) := hO9.trans (Off.of_below (F := fun _ => False) ((Below.refl _ _).alloc (Nat.le_refl _) _)) (fun _ q => q.elim)
              have rB := v0.alloc (.cells #[.int .u32 x0, .int .u32 x1, .int .u64 x2, .string x3] 65)
              have HR : Hid (∀ ty, ∃ v' w', (Builtin.append_ #[47, 47] ty #[.slice ob k cb, .slice (some ⟨w9.heap.size, 0, none⟩) 1 1]).run Try.prog (w9.alloc (.cells #[.int .u32 x0, .int .u32 x1, .int .u64 x2, .string x3] 65)) = .ok v' w' ∧ (Ck.Own w' w.heap.size v' (acc ++ [⟨x0, x1, x2, x3⟩]) ∧ (w9.alloc (.cells #[.int .u32 x0, .int .u32 x1, .int .u64 x2, .string x3] 65)).grownBy w' (Value.slice ob k cb).ownBlock ∧ (v'.ownBlock = (Value.slice ob k cb).ownBlock ∨ v'.ownBlock = some (w9.alloc (.cells #[.int .u32 x0, .int .u32 x1, .int .u64 x2, .string x3] 65)).heap.size))) := fun ty => by
                exact Ck.Own.snocR ownB ty w9.heap.size ⟨x0, x1, x2, x3⟩ rX (by simp; omega) (by omega)
              have HLT : Hid (∀ b, (Value.slice ob k cb).ownBlock = some b → w.heap.size ≤ b ∧ b ≠ w.heap.size) := fun b hb => by
                refine ⟨(World.ownsRow.lt ownA b hb).1, fun q => ?_⟩
                subst q
                exact own_not98 ownA hb v0
              clear ownA vb
              go_upto_region 15 with (first
                | (refine load_cells rfl 65 (.tmp 16) rfl g16 rfl 65 _ v16 4 Try.underlying65 rfl Ck.size65 rfl ?_)
                | (at_builtin; refine Ck.wpList_copy rfl (.tmp 57) (.tmp 59) 47 rfl _ _ rfl rfl (fun ty => HR.out ty) ?_
                   rintro v12 w12 ⟨own12, gr12, hv12⟩))
              have o12 : Off (fun j => (Value.slice ob k cb).ownBlock = some j) (w9.alloc (.cells #[.int .u32 x0, .int .u32 x1, .int .u64 x2, .string x3] 65)) w12 := Off.of_grown gr12 (fun k hk => hk)
              have R12 := rB.off o12 (fun q => (HLT.out _ q).2 rfl)
              have D12 := dB.off o12 (fun j hj q => by have := HFL.out j hj; have := (HLT.out j q).1; omega)
              have O12 : Off (foot gd L) w w12 := oB.trans o12 (fun j q => Or.inr (HLT.out j q).1)
              clear v16 v0 ownB dB rX oB rB HR gr12 hv12 o12 c1
              go_wp2
              go_roundw
              case rel => exact ⟨k + 1, acc ++ [⟨x0, x1, x2, x3⟩], d2, by omega, by go_num, by rw [List.length_append, hal]; rfl, own12, D12, O12, R12, by omega, by rw [hrr]; have := HSC.out; push_cast; exact this⟩
              case measure => simp [intOf]; omega
            · have hN' : (x1 != num) = true := by simp [hN]
              rw [Bool.true_and, if_neg (by simp [hN])] at hsc1
              have hsc2 : scanR a z fst d = (acc, 0, d2) := hsc1
              have HK : Hid (∀ w', Below w6.heap.size w6 w' → PP (.returned (.tuple #[.slice ob k cb, .int .i64 0])) w') := fun w' h => by
                rw [HPP.out, hsc2]
                exact ⟨_, rfl, (HOW.out w6 hO3).keep h, hD2.below h, HO6.out.trans (Off.of_below (F := fun _ => False) h) (fun _ q => q.elim)⟩
              clear hE hsc1 hsc2 HPP hN
              go_upto_region 13 with (first
                | (refine load_row rfl 56 (.tmp 14) rfl w6.heap.size rfl 56 (bs B) t14 256 5 Try.underlying56 size56 hBb ?_)
                | (go_at_call 60; refine Calls.mono (HUN.out _) ?_; clear HUN; rintro e w8 ⟨rfl, h8⟩
                   have u0 := (t0.below h8 t0.lt).alloc (.cells #[.int .u32 0, .int .u32 0, .int .u64 0, .string ByteArray.empty] 65)
                   have u16 : Row (w8.alloc (.cells #[.int .u32 0, .int .u32 0, .int .u64 0, .string ByteArray.empty] 65)) w8.heap.size #[.int .u32 0, .int .u32 0, .int .u64 0, .string ByteArray.empty] 65 := Row.new _ _ _
                   have ub0 := tb.trans (h8.mono tb.size)
                   have ub := ub0.alloc ub0.size (.cells #[.int .u32 0, .int .u32 0, .int .u64 0, .string ByteArray.empty] 65)
                   have hl0 := (t0.below h8 t0.lt).lt)
                | (refine store_cells rfl 65 (.tmp 16) (.tmp 47) rfl w8.heap.size #[.int .u32 x0, .int .u32 x1, .int .u64 x2, .string x3] rfl rfl 65 _ u16 4 Ck.size65 rfl rfl (by simp [Value.oneCell']) ?_))
              have v0 := u0.other (g := w8.heap.size) (by omega) #[.int .u32 x0, .int .u32 x1, .int .u64 x2, .string x3]
              have v16 := u16.set #[.int .u32 x0, .int .u32 x1, .int .u64 x2, .string x3]
              have vb := below_setRow ub ub0.size #[.int .u32 x0, .int .u32 x1, .int .u64 x2, .string x3]
              clear u0 u16 ub ub0 h8 t0 t14 tb
              generalize (w8.alloc (.cells #[.int .u32 0, .int .u32 0, .int .u64 0, .string ByteArray.empty] 65)).setRow w8.heap.size #[.int .u32 x0, .int .u32 x1, .int .u64 x2, .string x3] = w9 at v0 v16 vb ⊢
              generalize w8.heap.size = g16 at v16 hl0 ⊢
              have c1 := row_at v16 1 _ rfl
              go_wp2
              try go_ret
              first
                | exact HK.out _ vb
                | exact vb
        · have hE' : (E != 0) = true := by simp [hE]
          rw [if_neg hE] at hsc
          have HK : Hid (∀ w', Below w6.heap.size w6 w' → PP (.returned (.tuple #[.slice none 0 0, .int .i64 E])) w') := fun w' h => by
            rw [HPP.out, hsc]
            exact ⟨_, rfl, OwnCk.nil _ _, hD2.below h, HO6.out.trans (Off.of_below (F := fun _ => False) h) (fun _ q => q.elim)⟩
          clear hE hsc HPP HUN
          go_wp2
          try go_ret
          first
            | exact HK.out _ tb
            | exact tb
      · obtain rfl : Z = k := by omega
        have hzZ := HZZ.out
        have hkn' : ¬ (Z : Int) < z := by omega
        have e0 : Z - Z = 0 := by omega
        rw [e0, scanF_nil] at hsc
        have HK : Hid (PP (.returned (.tuple #[.slice ob Z cb, .int .i64 0])) wr) := by
          show PP _ _
          rw [HPP.out, hsc]
          exact ⟨_, rfl, hown, hD, hO⟩
        clear hzZ hsc HPP
        go_wp2
        try go_ret
        exact HK.out
end Go.Proofs.Ytgnedbagelhcbaa
