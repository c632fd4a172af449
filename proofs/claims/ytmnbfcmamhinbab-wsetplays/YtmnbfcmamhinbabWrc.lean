/-
  Proved here: what the document's Read tells.
-/
import Derived.Test.YtmnbfcmamhinbabWrb
namespace Go.Proofs.Ytmnbfcmamhinbab.Ws
open Go.ChangeShapes Go.WideShapes Go.ChangeAt Go.RowKit
open Go.Deep Go.Maps
set_option linter.unusedVariables false
set_option linter.unusedSimpArgs false
set_option maxRecDepth 20000

theorem step_cellsW {P : Program} {ops : Array Oper} {o : Oper} {a : Act} {w : World} {K : Act → World → Prop} {Q : Exit → Act → World → Prop} {E : Prop} (hgd : o.guard = none) (ty : TypeId) (x y : Operand) (ho : o.op = .store ty x y)
    (g : Nat) (cs : Array Value) (hx : a.eval x = .pointer (some ⟨g, 0, none⟩)) (hy : a.eval y = .agg cs)
    (t : TypeId) (old : Array Value) (hg : Row w g old t) (n : Nat) (hi : (P.info? ty).map (·.size) = some n)
    (hold : old.size = n) (hn : cs.size = n) (h1 : cs.all (·.oneCell') = true) (h : K (a.put o.dst undef) (w.setRow g cs)) :
    if Region.wanted o (yielded ops a.tmps) = true then Oper.wp P o a w K Q else E := by
  have hw : Region.wanted o (yielded ops a.tmps) = true := by simp [Region.wanted, hgd]
  rw [if_pos hw]
  exact wp_store_row ty x y ho g cs hx hy t old hg (by rw [hi, hn]) (by rw [hold, hn]) h1 h
theorem zero41 (w : World) : (zeroValue 41).run Try.prog w = .ok (.agg (bs (zs 64))) w := (zero_of_info (P := Try.prog) (t := 41) (v := .agg (bs (zs 64))) (n := 64) (by kernel_rfl)).1 w
theorem size41 : (Try.prog.info? 41).map (·.size) = some 64 := by kernel_rfl
theorem len41 : Try.prog.arrayLen 41 = 64 := by kernel_rfl
theorem ret_cell21 {P : Program} {fn : Func} {p q c : Tmp} {ty : TypeId} (h : fn.results = #[.cell p ty, .cell q ty, .tmp c]) (tmps : Array Value) (w : World) (g k : Nat) (t : TypeId) (cs ds : Array Value) (d : TypeDesc) (y : Value)
    (hp : tmps.getD p undef = .pointer (some ⟨g, 0, none⟩)) (hq : tmps.getD q undef = .pointer (some ⟨k, 0, none⟩)) (hc : tmps.getD c undef = y) (hg : Row w g cs t) (hk : Row w k ds t)
    (hu : P.underlying ty = some d) (hd : (match d with | .struct _ | .array _ _ => true | _ => false) = true) (hi : (P.info? ty).map (·.size) = some cs.size) (hj : (P.info? ty).map (·.size) = some ds.size) :
    (results fn tmps).run P w = .ok (.tuple #[.agg cs, .agg ds, y]) w := by
  have hp' : tmps[p]?.getD undef = .pointer (some ⟨g, 0, none⟩) := by simpa using hp
  have hq' : tmps[q]?.getD undef = .pointer (some ⟨k, 0, none⟩) := by simpa using hq
  have hc' : tmps[c]?.getD undef = y := by simpa using hc
  simp [results, h, hp', hq', hc', asAddr, run_loadVar_row w g t ty cs (0, 0) _ hg hu hd hi, run_loadVar_row w k t ty ds (0, 0) _ hk hu hd hj]
/-- One writing more, as it is read. -/
def rdS (p : Int) (st : Bool × List Int × List Int) (o : Wo) : Bool × List Int × List Int := if o.pg = p then (true, (if st.1 = true then st.2.1 else o.b), splice (if st.1 = true then st.2.2 else o.b) o.off.toNat (nums o.t)) else st
/-- What is read of a page. -/
def rdW (os : List Wo) (p : Int) : Bool × List Int × List Int := os.foldl (rdS p) (false, zs 64, zs 64)
theorem rdW_succ (os : List Wo) (k : Nat) (x : Wo) (h : os[k]? = some x) (p : Int) : rdW (os.take (k + 1)) p = rdS p (rdW (os.take k) p) x := by
  unfold rdW; rw [List.take_add_one, h]; simp [List.foldl_append]
theorem rdW_snoc (os : List Wo) (x : Wo) (p : Int) : rdW (os ++ [x]) p = rdS p (rdW os p) x := by
  unfold rdW; simp [List.foldl_append]
theorem rdS_len {p : Int} {st : Bool × List Int × List Int} {o : Wo} (ho : o.Ok) (hk : okW o.off o.t) (h : st.2.1.length = 64 ∧ st.2.2.length = 64) : (rdS p st o).2.1.length = 64 ∧ (rdS p st o).2.2.length = 64 := by
  unfold rdS
  split
  · have h1 : (if st.1 = true then st.2.2 else o.b).length = 64 := by split; exact h.2; exact ho.2.1
    have hof := hk.1
    have hk2 := hk.2.2
    refine ⟨by show (if st.1 = true then st.2.1 else o.b).length = 64; split; exact h.1; exact ho.2.1, ?_⟩
    show (splice _ _ _).length = 64
    rw [length_splice _ _ _ (by rw [nums_length, h1]; omega), h1]
  · exact h
theorem rdW_len {os : List Wo} (ho : ∀ o ∈ os, o.Ok ∧ okW o.off o.t) (p : Int) : ∀ k, k ≤ os.length → (rdW (os.take k) p).2.1.length = 64 ∧ (rdW (os.take k) p).2.2.length = 64
  | 0, _ => ⟨zs_length _, zs_length _⟩
  | k + 1, h => by
    obtain ⟨x, hx⟩ : ∃ x, os[k]? = some x := ⟨os[k], List.getElem?_eq_getElem (by omega)⟩
    rw [rdW_succ os k x hx]
    have := ho x (List.mem_of_getElem? hx)
    exact rdS_len this.1 this.2 (rdW_len ho p k (by omega))
theorem splice_at (l m : List Int) (o i : Nat) (h : o + m.length ≤ l.length) : (splice l o m)[i]? = if i < o then l[i]? else if i < o + m.length then m[i - o]? else l[i]? := by
  have el : (l.take o).length = o := by simp; omega
  unfold splice
  by_cases h1 : i < o
  · rw [if_pos h1, List.getElem?_append_left (by omega), List.getElem?_take, if_pos h1]
  · rw [if_neg h1, List.getElem?_append_right (by omega), el]
    by_cases h2 : i < o + m.length
    · rw [if_pos h2, List.getElem?_append_left (by omega)]
    · rw [if_neg h2, List.getElem?_append_right (by omega), List.getElem?_drop]
      congr 1; omega
theorem splice_more (l m : List Int) (o j : Nat) (x : Int) (h : o + m.length ≤ l.length) (hx : m[j]? = some x) : splice l o (m.take (j + 1)) = (splice l o (m.take j)).set (o + j) x := by
  have hj := (List.getElem?_eq_some_iff.1 hx).1
  have e1 : (m.take (j + 1)).length = j + 1 := by simp; omega
  have e2 : (m.take j).length = j := by simp; omega
  have e3 : (splice l o (m.take j)).length = l.length := length_splice _ _ _ (by omega)
  apply List.ext_getElem?
  intro i
  rw [List.getElem?_set, splice_at _ _ _ _ (by omega), splice_at _ _ _ _ (by omega), e1, e2, e3]
  by_cases h1 : i < o
  · rw [if_pos h1, if_neg (by omega), if_pos h1]
  · rw [if_neg h1]
    by_cases h3 : o + j = i
    · subst h3
      rw [if_pos (by omega), if_pos rfl, if_pos (by omega), List.getElem?_take, if_pos (by omega), Nat.add_sub_cancel_left, hx]
    · rw [if_neg h3, if_neg h1]
      by_cases h2 : i < o + j
      · rw [if_pos (by omega), if_pos h2, List.getElem?_take, List.getElem?_take, if_pos (by omega), if_pos (by omega)]
      · rw [if_neg (by omega), if_neg h2]
theorem woW_b {w : World} {N : Nat} {OA : Array Value} {o : Wo} (h : Row w N OA 49) (e : o.cells.toArray = OA) (ho : o.b.length = 64) : ∀ j u, (o.b.map (Value.int .u8))[j]? = some u → w.cell? ((⟨N, 1, none⟩ : Addr).add j) = some u := fun j u hj => by
  subst e
  rw [Addr.add_mid]
  exact row_at h (1 + j) _ (by rw [List.getElem?_toArray]; exact o.c1 ho j u hj)
theorem splice_nil (l : List Int) (o : Nat) : splice l o [] = l := by
  unfold splice; simp
theorem set_len_splice (l m : List Int) (o j : Nat) (h : o + m.length ≤ l.length) : (splice l o (m.take j)).length = l.length := length_splice _ _ _ (by rw [List.length_take]; omega)
set_option maxHeartbeats 8000000 in
theorem wread_any {w : World} {r base : Nat} {v : Value} {os : List Wo} (d : DAt w r base v os) (hg : ∀ o ∈ os, okW o.off o.t) (p : Int) :
    Calls Try.prog 19 #[.pointer (some ⟨r, 0, none⟩), .int .u16 p] w fun e w' => e = .returned (.tuple #[.agg (bs (rdW os p).2.1), .agg (bs (rdW os p).2.2), .bool (rdW os p).1]) ∧ Below w.heap.size w w' := by
  obtain ⟨oa, cap, rfl, hc⟩ := d.own.form
  have HC : Hid _ := hc
  have HGD : Hid (∀ o ∈ os, o.Ok ∧ okW o.off o.t) := fun o ho => ⟨d.ok o ho, hg o ho⟩
  have HLE : Hid _ := rdW_len HGD.out p
  have hfew := d.few
  have HD : Hid _ := d
  obtain ⟨n, HN⟩ : ∃ n, Hid (os.length = n) := ⟨_, rfl⟩
  rw [HN.out] at HD hfew HLE
  have hz := zero49
  obtain ⟨ZA, HZA⟩ : ∃ ZA, Hid (zW = ZA) := ⟨_, rfl⟩
  have HZS : Hid (ZA.size = 67) := by show _ = _; rw [← HZA.out]; exact zW_size
  rw [HZA.out] at hz
  clear hc d hg
  obtain ⟨B0, HB0⟩ : ∃ B0, Hid (w.heap.size = B0) := ⟨_, rfl⟩
  have hz41 := zero41
  have rows : ∀ W, W = (((w.alloc (.cells (bs (zs 64)) 41)).alloc (.cells (bs (zs 64)) 41)).alloc (.cells (bs (zs 64)) 41)).alloc (.cells (bs (zs 64)) 41) → Row W B0 (bs (zs 64)) 41 ∧ Row W (B0 + 1) (bs (zs 64)) 41 ∧ Row W (B0 + 2) (bs (zs 64)) 41 ∧ Row W (B0 + 3) (bs (zs 64)) 41 ∧ Below w.heap.size w W := by
    rintro W rfl
    rw [← HB0.out]
    have q1 := Row.new (w.alloc (.cells (bs (zs 64)) 41)) (bs (zs 64)) 41
    have q2 := Row.new ((w.alloc (.cells (bs (zs 64)) 41)).alloc (.cells (bs (zs 64)) 41)) (bs (zs 64)) 41
    have q3 := Row.new (((w.alloc (.cells (bs (zs 64)) 41)).alloc (.cells (bs (zs 64)) 41)).alloc (.cells (bs (zs 64)) 41)) (bs (zs 64)) 41
    simp at q1 q2 q3
    exact ⟨(((Row.new _ _ _).alloc _).alloc _).alloc _, (q1.alloc _).alloc _, q2.alloc _, q3, ((((Below.refl _ _).alloc (Nat.le_refl _) _).alloc (by simp) _).alloc (by simp; omega) _).alloc (by simp; omega) _⟩
  have ROWS : Hid _ := rows
  clear rows
  go_enter Try.func19, Try.ntmps19
  go_upto_region 3 with fail
  rw [HB0.out]
  obtain ⟨a4, a5, a7, a8, ab⟩ := ROWS.out _ rfl
  generalize (((w.alloc (.cells (bs (zs 64)) 41)).alloc (.cells (bs (zs 64)) 41)).alloc (.cells (bs (zs 64)) 41)).alloc (.cells (bs (zs 64)) 41) = w1 at a4 a5 a7 a8 ab ⊢
  have c0 := row_at (HD.out.below ab).row 0 _ rfl
  have HCW : Hid (∀ W, Below w.heap.size w W → ∀ (i : Nat) (x : Wo), os[i]? = some x → ∃ g, oa = some ⟨g, 0, none⟩ ∧ ∀ j u, x.cells[j]? = some u → W.cell? ((⟨g, i * 67, none⟩ : Addr).add j) = some u) := fun W hW i x hx => by
    obtain ⟨g, h1, h2⟩ := HC.out i x hx
    exact ⟨g, h1, fun j u hj => cell_keep (h2 j u hj) hW⟩
  clear HC
  go_wp2
  go_loopw [9, 18] (fun c e wr => ∃ k : Nat, c = .bool (rdW (os.take k) p).1 ∧ e = .int .i64 k ∧ k ≤ n ∧ Row wr B0 (bs (zs 64)) 41 ∧ Row wr (B0 + 1) (bs (zs 64)) 41 ∧ Row wr (B0 + 2) (bs (rdW (os.take k) p).2.1) 41 ∧ Row wr (B0 + 3) (bs (rdW (os.take k) p).2.2) 41 ∧ Below w.heap.size w wr) (fun _ e _ => n - (intOf e).toNat)
  case atStart => exact ⟨0, rfl, rfl, by omega, a4, a5, a7, a8, ab⟩
  case round =>
    clear a4 a5 a7 a8 ab c0
    obtain ⟨k, rfl, rfl, hk, a4, a5, a7, a8, ab⟩ := hrel
    have hle := HLE.out k hk
    by_cases hkn : k < n
    · have hkn' : (k : Int) < (n : Int) := by omega
      obtain ⟨x, hx⟩ : ∃ x, os[k]? = some x := ⟨os[k]'(by rw [HN.out]; exact hkn), List.getElem?_eq_getElem (by rw [HN.out]; exact hkn)⟩
      obtain ⟨g, rfl, hcw⟩ := HCW.out wr ab k x hx
      have HO : Hid (x.Ok ∧ okW x.off x.t) := HGD.out x (List.mem_of_getElem? hx)
      have hsu := rdW_succ os k x hx p
      obtain ⟨⟨fd, bb, nn⟩, HST⟩ : ∃ st, Hid (rdW (os.take k) p = st) := ⟨_, rfl⟩
      rw [HST.out] at hsu hle a7 a8 ⊢
      simp only at hle a7 a8 ⊢
      have HSU : Hid _ := hsu
      have HBL : Hid (bb.length = 64 ∧ nn.length = 64) := hle
      clear hsu hle
      have HXL : Hid (x.cells.length = 67) := x.lenW HO.out.1.2.1
      have HX1 : Hid (x.cells.toArray.all (·.oneCell') = true) := x.oneW
      obtain ⟨XL, HXA⟩ : ∃ XL, Hid (x.cells = XL) := ⟨_, rfl⟩
      rw [HXA.out] at hcw HXL HX1
      have z0 : Row (wr.alloc (.cells ZA 49)) wr.heap.size ZA 49 := Row.new _ _ _
      have ts : Hid (1 = 1) := rfl
      have tl : Hid (1 = 1) := rfl
      go_upto_region 6 with (first
        | (have hh := tl; clear hh tl; refine wpList_load_any rfl 49 (.tmp 20) rfl ⟨g, k * 67, none⟩ rfl XL _ hcw Try.underlying49 rfl (by rw [size49, HXL.out]) ?_)
        | (have hh := ts; clear hh ts; refine store_cells rfl 49 (.tmp 11) (.tmp 21) rfl wr.heap.size XL.toArray rfl rfl 49 _ z0 67 size49 HZS.out (by rw [List.size_toArray]; exact HXL.out) HX1.out ?_))
      have hb6 : Below wr.heap.size wr ((wr.alloc (.cells ZA 49)).setRow wr.heap.size XL.toArray) := below_setRow ((Below.refl _ _).alloc (Nat.le_refl _) _) (Nat.le_refl _) _
      have rO := z0.set XL.toArray
      have HXT : Hid (x.cells.toArray = XL.toArray) := by show _ = _; rw [HXA.out]
      have e4 := a4.below hb6 a4.lt
      have e5 := a5.below hb6 a5.lt
      have e7 := a7.below hb6 a7.lt
      have e8 := a8.below hb6 a8.lt
      have eb := ab.trans (hb6.mono ab.size)
      have HX11 : Hid (B0 + 3 < wr.heap.size) := a8.lt
      clear hcw z0 hb6 a4 a5 a7 a8 ab
      generalize (wr.alloc (.cells ZA 49)).setRow wr.heap.size XL.toArray = w6 at rO e4 e5 e7 e8 eb ⊢
      generalize wr.heap.size = X at rO HX11 ⊢
      generalize XL.toArray = OA at rO HXT HX1
      obtain ⟨d0, d65, d66⟩ := woW_at rO HXT.out HO.out.1.2.1
      by_cases hp : x.pg = p
      · rw [hp] at d0
        obtain ⟨of, hof⟩ : ∃ of : Nat, x.off = of := ⟨x.off.toNat, by have := HO.out.2.1; omega⟩
        have hof64 : of + x.t.size ≤ 64 := by have := HO.out.2.2.2; omega
        have hNX : Hid (rdW (os.take (k + 1)) p = (true, (if fd = true then bb else x.b), splice (if fd = true then nn else x.b) of (nums x.t))) := by
          show _ = _
          rw [HSU.out]; unfold rdS; rw [if_pos hp, hof]; rfl
        clear HSU
        go_upto_region 7 with fail
        cases fd
        · go_upto_region 8 with fail
          go_cut [9] from 28 to 31 (fun c wx => c = .bool true ∧ Row wx B0 (bs (zs 64)) 41 ∧ Row wx (B0 + 1) (bs (zs 64)) 41 ∧ Row wx (B0 + 2) (bs x.b) 41 ∧ Row wx (B0 + 3) (bs x.b) 41 ∧ Below w.heap.size w wx ∧ Row wx X OA 49)
          case first =>
            refine wp_region_held_drew (S := fun w' => Row w' X OA 49) (by kernel_rfl) rO fun hS => ?_
            refine wpAnyH_take (i := 0) (v := .pointer (some ⟨X, 1, none⟩)) rfl (by kernel_rfl) (by kernel_rfl) (by kernel_rfl) (fun _ _ _ h => h) (Or.inl ⟨by rfl, fun w _ => by go_simp⟩) hS ?_
            try simp only [Act.put, List.getElem_toArray, List.getElem_cons_zero, List.getElem_cons_succ, List.setIfInBounds_toArray, List.set_cons_zero, List.set_cons_succ]
            refine wpAnyH_take (i := 1) (v := .agg (bs x.b)) rfl (by kernel_rfl) (by kernel_rfl) (by kernel_rfl) (fun _ _ _ h => h) (yields_any (by rfl) 41 (.tmp 28) rfl ⟨X, 1, none⟩ rfl (x.b.map (Value.int .u8)) (fun w h => woW_b h HXT.out HO.out.1.2.1) Try.underlying41 rfl (by rw [size41, List.length_map, HO.out.1.2.1])) hS ?_
            try simp only [Act.put, List.getElem_toArray, List.getElem_cons_zero, List.getElem_cons_succ, List.setIfInBounds_toArray, List.set_cons_zero, List.set_cons_succ]
            refine wpAnyH_take (i := 2) (v := .pointer (some ⟨X, 1, none⟩)) rfl (by kernel_rfl) (by kernel_rfl) (by kernel_rfl) (fun _ _ _ h => h) (Or.inl ⟨by rfl, fun w _ => by go_simp⟩) hS ?_
            try simp only [Act.put, List.getElem_toArray, List.getElem_cons_zero, List.getElem_cons_succ, List.setIfInBounds_toArray, List.set_cons_zero, List.set_cons_succ]
            refine wpAnyH_take (i := 3) (v := .agg (bs x.b)) rfl (by kernel_rfl) (by kernel_rfl) (by kernel_rfl) (fun _ _ _ h => h) (yields_any (by rfl) 41 (.tmp 30) rfl ⟨X, 1, none⟩ rfl (x.b.map (Value.int .u8)) (fun w h => woW_b h HXT.out HO.out.1.2.1) Try.underlying41 rfl (by rw [size41, List.length_map, HO.out.1.2.1])) hS ?_
            try simp only [Act.put, List.getElem_toArray, List.getElem_cons_zero, List.getElem_cons_succ, List.setIfInBounds_toArray, List.set_cons_zero, List.set_cons_succ]
            have HXB : Hid (x.b.length = 64) := HO.out.1.2.1
            have k4 : Row w6.drew B0 (bs (zs 64)) 41 := e4
            have k5 : Row w6.drew (B0 + 1) (bs (zs 64)) 41 := e5
            have k7 : Row w6.drew (B0 + 2) (bs bb) 41 := e7
            have k8 : Row w6.drew (B0 + 3) (bs nn) 41 := e8
            have kb := eb.drew
            have hBB : Hid (w.heap.size ≤ B0) := Nat.le_of_eq HB0.out
            clear e4 e5 e7 e8 eb d0 d65 d66
            generalize w6.drew = W0 at hS k4 k5 k7 k8 kb ⊢
            refine wpAnyH_ready (rs := [4]) (by kernel_rfl) (by simp) ?_
            refine AllReadyH.cons rfl (fun K hK => ?_) AllReadyH.nil
            refine step_cellsW rfl 41 (.tmp 7) (.tmp 29) rfl (B0 + 2) (bs x.b) rfl rfl 41 _ k7 64 size41 (by rw [bs_size]; exact HBL.out.1) (by rw [bs_size]; exact HXB.out) (bs_one _) (hK.out _ _ (hS.other (by have := HX11.out; omega) _) fun hS => ?_)
            try simp only [Act.put, List.getElem_toArray, List.getElem_cons_zero, List.getElem_cons_succ, List.setIfInBounds_toArray, List.set_cons_zero, List.set_cons_succ]
            refine wpAnyH_ready (rs := [5]) (by kernel_rfl) (by simp) ?_
            refine AllReadyH.cons rfl (fun K hK => ?_) AllReadyH.nil
            have R7 := (k7.set (bs x.b)).other (g := B0 + 3) (by omega) (bs x.b)
            have R8 := (k8.other (g := B0 + 2) (by omega) (bs x.b)).set (bs x.b)
            refine step_cellsW rfl 41 (.tmp 8) (.tmp 31) rfl (B0 + 3) (bs x.b) rfl rfl 41 _ (k8.other (by omega) _) 64 size41 (by rw [bs_size]; exact HBL.out.2) (by rw [bs_size]; exact HXB.out) (bs_one _) (hK.out _ _ (hS.other (by have := HX11.out; omega) _) fun hS => ?_)
            try simp only [Act.put, List.getElem_toArray, List.getElem_cons_zero, List.getElem_cons_succ, List.setIfInBounds_toArray, List.set_cons_zero, List.set_cons_succ]
            refine wpAnyH_take (i := 6) (v := .bool true) rfl (by kernel_rfl) (by kernel_rfl) (by kernel_rfl) (fun _ _ _ h => h) (Or.inl ⟨by rfl, fun w _ => by go_simp⟩) hS ?_
            try simp only [Act.put, List.getElem_toArray, List.getElem_cons_zero, List.getElem_cons_succ, List.setIfInBounds_toArray, List.set_cons_zero, List.set_cons_succ]
            refine wpAnyH_done (by kernel_rfl) ?_ _
            go_wp2
            go_meet
            exact ⟨rfl, (k4.other (by omega) _).other (by omega) _, (k5.other (by omega) _).other (by omega) _, R7, R8, below_setRow (below_setRow kb (by have := hBB.out; omega) _) (by have := hBB.out; omega) _, hS⟩
          case rest =>
            clear e4 e5 e7 e8 eb rO d0 d65 d66
            obtain ⟨rfl, f4, f5, f7, f8, fb, fO⟩ := hcut
            obtain ⟨BB, HBB⟩ : ∃ BB, Hid (x.b = BB) := ⟨_, rfl⟩
            obtain ⟨NB, HNB⟩ : ∃ NB, Hid (x.b = NB) := ⟨_, rfl⟩
            rw [HBB.out] at f7
            rw [HNB.out] at f8
            have HNL : Hid (NB.length = 64) := by show _ = _; rw [← HNB.out]; exact HO.out.1.2.1
            have hNY : Hid (rdW (os.take (k + 1)) p = (true, BB, splice NB of (nums x.t))) := by show _ = _; rw [hNX.out]; simp; exact ⟨HBB.out, by rw [HNB.out]⟩
            have hBB : Hid (w.heap.size ≤ B0) := Nat.le_of_eq HB0.out
            have d66 := (woW_at fO HXT.out HO.out.1.2.1).2.2
            go_wp2
            go_loopw [12] (fun e wr => ∃ j : Nat, e = .int .i64 j ∧ j ≤ x.t.size ∧ Row wr B0 (bs (zs 64)) 41 ∧ Row wr (B0 + 1) (bs (zs 64)) 41 ∧ Row wr (B0 + 2) (bs BB) 41 ∧ Row wr (B0 + 3) (bs (splice NB of ((nums x.t).take j))) 41 ∧ Below w.heap.size w wr ∧ Row wr X OA 49) (fun e _ => x.t.size - (intOf e).toNat)
            case atStart => exact ⟨0, rfl, by omega, f4, f5, f7, by rw [List.take_zero, splice_nil]; exact f8, fb, fO⟩
            case round =>
              clear f4 f5 f7 f8 fb fO d66
              obtain ⟨j, rfl, hj, f4, f5, f7, f8, fb, fO⟩ := hrel
              obtain ⟨d0, d65, d66⟩ := woW_at fO HXT.out HO.out.1.2.1
              rw [hof] at d65
              by_cases hjt : j < x.t.size
              · have hjt' : (j : Int) < (x.t.size : Int) := by omega
                have hby : x.t[j]? = some x.t[j] := getElem?_pos x.t j hjt
                have hnx : (nums x.t)[j]? = some (x.t[j].toNat : Int) := by
                  have h1 := nums_getD x.t j hjt
                  rw [List.getElem?_eq_getElem (by rw [nums_length]; exact hjt)]
                  simp only [List.getD, List.getElem?_eq_getElem (show j < (nums x.t).length by rw [nums_length]; exact hjt), Option.getD_some] at h1
                  rw [h1]
                have HMO : Hid _ := splice_more NB (nums x.t) of j _ (by rw [nums_length, HNL.out]; exact hof64) hnx
                have HSL : Hid ((splice NB of ((nums x.t).take j)).length = 64) := by show _ = _; rw [set_len_splice _ _ _ _ (by rw [nums_length, HNL.out]; exact hof64), HNL.out]
                have x1 : IntKind.i64.wrap ((of : Int) + (j : Int)) = ((of + j : Nat) : Int) := by rw [IntKind.wrap_i64]; omega
                have x2 : ((of + j : Nat) : Int) < 64 := by omega
                generalize splice NB of ((nums x.t).take j) = SP at f8 HMO HSL
                obtain ⟨q, HQ⟩ : ∃ q, Hid (of + j = q) := ⟨_, rfl⟩
                rw [HQ.out] at x1 x2 HMO
                obtain ⟨by_, HBY⟩ : ∃ by_ : UInt8, Hid (x.t[j] = by_) := ⟨x.t[j], show x.t[j] = x.t[j] from rfl⟩
                rw [HBY.out] at hby HMO
                clear hnx d0 d65
                go_upto_region 12 with fail
                clear d66
                refine wp_region_held_drew (S := fun w' => Row w' X OA 49) (by kernel_rfl) fO fun hS => ?_
                refine wpAnyH_take (i := 0) (v := .pointer (some ⟨X, 65, none⟩)) rfl (by kernel_rfl) (by kernel_rfl) (by kernel_rfl) (fun _ _ _ h => h) (Or.inl ⟨by rfl, fun w _ => by go_simp⟩) hS ?_
                try simp only [Act.put, List.getElem_toArray, List.getElem_cons_zero, List.getElem_cons_succ, List.setIfInBounds_toArray, List.set_cons_zero, List.set_cons_succ]
                refine wpAnyH_take (i := 1) (v := .int .i64 of) rfl (by kernel_rfl) (by kernel_rfl) (by kernel_rfl) (fun _ _ _ h => h) (Or.inl ⟨by rfl, fun w h => by have c := (woW_at h HXT.out HO.out.1.2.1).2.1; rw [hof] at c; go_simp⟩) hS ?_
                try simp only [Act.put, List.getElem_toArray, List.getElem_cons_zero, List.getElem_cons_succ, List.setIfInBounds_toArray, List.set_cons_zero, List.set_cons_succ]
                refine wpAnyH_take (i := 2) (v := .int .i64 j) rfl (by kernel_rfl) (by kernel_rfl) (by kernel_rfl) (fun _ _ _ h => h) (Or.inl ⟨by rfl, fun w _ => by go_simp⟩) hS ?_
                try simp only [Act.put, List.getElem_toArray, List.getElem_cons_zero, List.getElem_cons_succ, List.setIfInBounds_toArray, List.set_cons_zero, List.set_cons_succ]
                refine wpAnyH_take (i := 3) (v := .int .i64 q) rfl (by kernel_rfl) (by kernel_rfl) (by kernel_rfl) (fun _ _ _ h => h) (Or.inl ⟨by rfl, fun w _ => by go_simp⟩) hS ?_
                try simp only [Act.put, List.getElem_toArray, List.getElem_cons_zero, List.getElem_cons_succ, List.setIfInBounds_toArray, List.set_cons_zero, List.set_cons_succ]
                refine wpAnyH_take (i := 4) (v := .pointer (some ⟨X, 66, none⟩)) rfl (by kernel_rfl) (by kernel_rfl) (by kernel_rfl) (fun _ _ _ h => h) (Or.inl ⟨by rfl, fun w _ => by go_simp⟩) hS ?_
                try simp only [Act.put, List.getElem_toArray, List.getElem_cons_zero, List.getElem_cons_succ, List.setIfInBounds_toArray, List.set_cons_zero, List.set_cons_succ]
                refine wpAnyH_take (i := 5) (v := .string x.t) rfl (by kernel_rfl) (by kernel_rfl) (by kernel_rfl) (fun _ _ _ h => h) (Or.inl ⟨by rfl, fun w h => by have c := (woW_at h HXT.out HO.out.1.2.1).2.2; go_simp⟩) hS ?_
                try simp only [Act.put, List.getElem_toArray, List.getElem_cons_zero, List.getElem_cons_succ, List.setIfInBounds_toArray, List.set_cons_zero, List.set_cons_succ]
                refine wpAnyH_take (i := 6) (v := .int .i64 j) rfl (by kernel_rfl) (by kernel_rfl) (by kernel_rfl) (fun _ _ _ h => h) (Or.inl ⟨by rfl, fun w _ => by go_simp⟩) hS ?_
                try simp only [Act.put, List.getElem_toArray, List.getElem_cons_zero, List.getElem_cons_succ, List.setIfInBounds_toArray, List.set_cons_zero, List.set_cons_succ]
                refine wpAnyH_take (i := 7) (v := .int .u8 (by_.toNat : Int)) rfl (by kernel_rfl) (by kernel_rfl) (by kernel_rfl) (fun _ _ _ h => h) (Or.inl ⟨by rfl, fun w _ => by go_simp; rw [HBY.out]⟩) hS ?_
                try simp only [Act.put, List.getElem_toArray, List.getElem_cons_zero, List.getElem_cons_succ, List.setIfInBounds_toArray, List.set_cons_zero, List.set_cons_succ]
                refine wpAnyH_take (i := 8) (v := .pointer (some ⟨B0 + 3, q, none⟩)) rfl (by kernel_rfl) (by kernel_rfl) (by kernel_rfl) (fun _ _ _ h => h) (Or.inl ⟨by rfl, fun w _ => by go_simp⟩) hS ?_
                try simp only [Act.put, List.getElem_toArray, List.getElem_cons_zero, List.getElem_cons_succ, List.setIfInBounds_toArray, List.set_cons_zero, List.set_cons_succ]
                have k8 : Row wr.drew (B0 + 3) (bs SP) 41 := f8
                have cc := row_cell k8 q (by rw [HSL.out]; omega)
                have ff := row_frozen k8 q
                refine wpAnyH_ready (rs := [9]) (by kernel_rfl) (by simp) ?_
                refine AllReadyH.cons rfl (fun K hK => ?_) AllReadyH.nil
                go_simp
                refine hK.out _ _ (row_setCell_other (w := wr.drew) hS (by have := HX11.out; omega) _ _) fun hS => ?_
                try simp only [Act.put, List.getElem_toArray, List.getElem_cons_zero, List.getElem_cons_succ, List.setIfInBounds_toArray, List.set_cons_zero, List.set_cons_succ]
                refine wpAnyH_done (by kernel_rfl) ?_ _
                clear cc ff
                have R8 := row_setCell k8 q (by_.toNat : Int)
                rw [← HMO.out] at R8
                have R4 : Row (wr.drew.setCell ⟨B0 + 3, q, none⟩ (.int .u8 (by_.toNat : Int))) B0 (bs (zs 64)) 41 := row_setCell_other (w := wr.drew) f4 (by omega) _ _
                have R5 : Row (wr.drew.setCell ⟨B0 + 3, q, none⟩ (.int .u8 (by_.toNat : Int))) (B0 + 1) (bs (zs 64)) 41 := row_setCell_other (w := wr.drew) f5 (by omega) _ _
                have R7 : Row (wr.drew.setCell ⟨B0 + 3, q, none⟩ (.int .u8 (by_.toNat : Int))) (B0 + 2) (bs BB) 41 := row_setCell_other (w := wr.drew) f7 (by omega) _ _
                have RB : Below w.heap.size w (wr.drew.setCell ⟨B0 + 3, q, none⟩ (.int .u8 (by_.toNat : Int))) := fb.drew.setCell (p := ⟨B0 + 3, q, none⟩) (by show w.heap.size ≤ B0 + 3; have := hBB.out; omega) _
                have eD : wr.drew.setCell ⟨B0 + 3, q, none⟩ (.int .u8 (by_.toNat : Int)) = (wr.setCell ⟨B0 + 3, q, none⟩ (.int .u8 (by_.toNat : Int))).drew := rfl
                rw [eD] at R8 R4 R5 R7 RB
                generalize (wr.setCell ⟨B0 + 3, q, none⟩ (.int .u8 (by_.toNat : Int))).drew = W9 at R8 R4 R5 R7 RB hS ⊢
                go_wp2
                go_roundw
                case rel => exact ⟨j + 1, by go_num, by omega, R4, R5, R7, R8, RB, hS⟩
                case measure => simp [intOf]; omega
              · have hjt' : ¬ (j : Int) < (x.t.size : Int) := by omega
                have hjl : (nums x.t).take j = nums x.t := List.take_of_length_le (by rw [nums_length]; omega)
                rw [hjl] at f8
                clear d0 d65
                go_wp2
                go_roundw
                case rel => exact ⟨k + 1, by rw [hNY.out], by go_num, by omega, f4, f5, by rw [hNY.out]; exact f7, by rw [hNY.out]; exact f8, fb⟩
                case measure => simp [intOf]; omega
        · have f4 := e4
          have f5 := e5
          have f7 := e7
          have f8 := e8
          have fb := eb
          have fO := rO
          clear e4 e5 e7 e8 eb rO d0 d65 d66
          obtain ⟨BB, HBB⟩ : ∃ BB, Hid (bb = BB) := ⟨_, rfl⟩
          obtain ⟨NB, HNB⟩ : ∃ NB, Hid (nn = NB) := ⟨_, rfl⟩
          rw [HBB.out] at f7
          rw [HNB.out] at f8
          have HNL : Hid (NB.length = 64) := by show _ = _; rw [← HNB.out]; exact HBL.out.2
          have hNY : Hid (rdW (os.take (k + 1)) p = (true, BB, splice NB of (nums x.t))) := by show _ = _; rw [hNX.out]; simp; exact ⟨HBB.out, by rw [HNB.out]⟩
          have hBB : Hid (w.heap.size ≤ B0) := Nat.le_of_eq HB0.out
          have d66 := (woW_at fO HXT.out HO.out.1.2.1).2.2
          go_wp2
          go_loopw [12] (fun e wr => ∃ j : Nat, e = .int .i64 j ∧ j ≤ x.t.size ∧ Row wr B0 (bs (zs 64)) 41 ∧ Row wr (B0 + 1) (bs (zs 64)) 41 ∧ Row wr (B0 + 2) (bs BB) 41 ∧ Row wr (B0 + 3) (bs (splice NB of ((nums x.t).take j))) 41 ∧ Below w.heap.size w wr ∧ Row wr X OA 49) (fun e _ => x.t.size - (intOf e).toNat)
          case atStart => exact ⟨0, rfl, by omega, f4, f5, f7, by rw [List.take_zero, splice_nil]; exact f8, fb, fO⟩
          case round =>
            clear f4 f5 f7 f8 fb fO d66
            obtain ⟨j, rfl, hj, f4, f5, f7, f8, fb, fO⟩ := hrel
            obtain ⟨d0, d65, d66⟩ := woW_at fO HXT.out HO.out.1.2.1
            rw [hof] at d65
            by_cases hjt : j < x.t.size
            · have hjt' : (j : Int) < (x.t.size : Int) := by omega
              have hby : x.t[j]? = some x.t[j] := getElem?_pos x.t j hjt
              have hnx : (nums x.t)[j]? = some (x.t[j].toNat : Int) := by
                have h1 := nums_getD x.t j hjt
                rw [List.getElem?_eq_getElem (by rw [nums_length]; exact hjt)]
                simp only [List.getD, List.getElem?_eq_getElem (show j < (nums x.t).length by rw [nums_length]; exact hjt), Option.getD_some] at h1
                rw [h1]
              have HMO : Hid _ := splice_more NB (nums x.t) of j _ (by rw [nums_length, HNL.out]; exact hof64) hnx
              have HSL : Hid ((splice NB of ((nums x.t).take j)).length = 64) := by show _ = _; rw [set_len_splice _ _ _ _ (by rw [nums_length, HNL.out]; exact hof64), HNL.out]
              have x1 : IntKind.i64.wrap ((of : Int) + (j : Int)) = ((of + j : Nat) : Int) := by rw [IntKind.wrap_i64]; omega
              have x2 : ((of + j : Nat) : Int) < 64 := by omega
              generalize splice NB of ((nums x.t).take j) = SP at f8 HMO HSL
              obtain ⟨q, HQ⟩ : ∃ q, Hid (of + j = q) := ⟨_, rfl⟩
              rw [HQ.out] at x1 x2 HMO
              obtain ⟨by_, HBY⟩ : ∃ by_ : UInt8, Hid (x.t[j] = by_) := ⟨x.t[j], show x.t[j] = x.t[j] from rfl⟩
              rw [HBY.out] at hby HMO
              clear hnx d0 d65
              go_upto_region 12 with fail
              clear d66
              refine wp_region_held_drew (S := fun w' => Row w' X OA 49) (by kernel_rfl) fO fun hS => ?_
              refine wpAnyH_take (i := 0) (v := .pointer (some ⟨X, 65, none⟩)) rfl (by kernel_rfl) (by kernel_rfl) (by kernel_rfl) (fun _ _ _ h => h) (Or.inl ⟨by rfl, fun w _ => by go_simp⟩) hS ?_
              try simp only [Act.put, List.getElem_toArray, List.getElem_cons_zero, List.getElem_cons_succ, List.setIfInBounds_toArray, List.set_cons_zero, List.set_cons_succ]
              refine wpAnyH_take (i := 1) (v := .int .i64 of) rfl (by kernel_rfl) (by kernel_rfl) (by kernel_rfl) (fun _ _ _ h => h) (Or.inl ⟨by rfl, fun w h => by have c := (woW_at h HXT.out HO.out.1.2.1).2.1; rw [hof] at c; go_simp⟩) hS ?_
              try simp only [Act.put, List.getElem_toArray, List.getElem_cons_zero, List.getElem_cons_succ, List.setIfInBounds_toArray, List.set_cons_zero, List.set_cons_succ]
              refine wpAnyH_take (i := 2) (v := .int .i64 j) rfl (by kernel_rfl) (by kernel_rfl) (by kernel_rfl) (fun _ _ _ h => h) (Or.inl ⟨by rfl, fun w _ => by go_simp⟩) hS ?_
              try simp only [Act.put, List.getElem_toArray, List.getElem_cons_zero, List.getElem_cons_succ, List.setIfInBounds_toArray, List.set_cons_zero, List.set_cons_succ]
              refine wpAnyH_take (i := 3) (v := .int .i64 q) rfl (by kernel_rfl) (by kernel_rfl) (by kernel_rfl) (fun _ _ _ h => h) (Or.inl ⟨by rfl, fun w _ => by go_simp⟩) hS ?_
              try simp only [Act.put, List.getElem_toArray, List.getElem_cons_zero, List.getElem_cons_succ, List.setIfInBounds_toArray, List.set_cons_zero, List.set_cons_succ]
              refine wpAnyH_take (i := 4) (v := .pointer (some ⟨X, 66, none⟩)) rfl (by kernel_rfl) (by kernel_rfl) (by kernel_rfl) (fun _ _ _ h => h) (Or.inl ⟨by rfl, fun w _ => by go_simp⟩) hS ?_
              try simp only [Act.put, List.getElem_toArray, List.getElem_cons_zero, List.getElem_cons_succ, List.setIfInBounds_toArray, List.set_cons_zero, List.set_cons_succ]
              refine wpAnyH_take (i := 5) (v := .string x.t) rfl (by kernel_rfl) (by kernel_rfl) (by kernel_rfl) (fun _ _ _ h => h) (Or.inl ⟨by rfl, fun w h => by have c := (woW_at h HXT.out HO.out.1.2.1).2.2; go_simp⟩) hS ?_
              try simp only [Act.put, List.getElem_toArray, List.getElem_cons_zero, List.getElem_cons_succ, List.setIfInBounds_toArray, List.set_cons_zero, List.set_cons_succ]
              refine wpAnyH_take (i := 6) (v := .int .i64 j) rfl (by kernel_rfl) (by kernel_rfl) (by kernel_rfl) (fun _ _ _ h => h) (Or.inl ⟨by rfl, fun w _ => by go_simp⟩) hS ?_
              try simp only [Act.put, List.getElem_toArray, List.getElem_cons_zero, List.getElem_cons_succ, List.setIfInBounds_toArray, List.set_cons_zero, List.set_cons_succ]
              refine wpAnyH_take (i := 7) (v := .int .u8 (by_.toNat : Int)) rfl (by kernel_rfl) (by kernel_rfl) (by kernel_rfl) (fun _ _ _ h => h) (Or.inl ⟨by rfl, fun w _ => by go_simp; rw [HBY.out]⟩) hS ?_
              try simp only [Act.put, List.getElem_toArray, List.getElem_cons_zero, List.getElem_cons_succ, List.setIfInBounds_toArray, List.set_cons_zero, List.set_cons_succ]
              refine wpAnyH_take (i := 8) (v := .pointer (some ⟨B0 + 3, q, none⟩)) rfl (by kernel_rfl) (by kernel_rfl) (by kernel_rfl) (fun _ _ _ h => h) (Or.inl ⟨by rfl, fun w _ => by go_simp⟩) hS ?_
              try simp only [Act.put, List.getElem_toArray, List.getElem_cons_zero, List.getElem_cons_succ, List.setIfInBounds_toArray, List.set_cons_zero, List.set_cons_succ]
              have k8 : Row wr.drew (B0 + 3) (bs SP) 41 := f8
              have cc := row_cell k8 q (by rw [HSL.out]; omega)
              have ff := row_frozen k8 q
              refine wpAnyH_ready (rs := [9]) (by kernel_rfl) (by simp) ?_
              refine AllReadyH.cons rfl (fun K hK => ?_) AllReadyH.nil
              go_simp
              refine hK.out _ _ (row_setCell_other (w := wr.drew) hS (by have := HX11.out; omega) _ _) fun hS => ?_
              try simp only [Act.put, List.getElem_toArray, List.getElem_cons_zero, List.getElem_cons_succ, List.setIfInBounds_toArray, List.set_cons_zero, List.set_cons_succ]
              refine wpAnyH_done (by kernel_rfl) ?_ _
              clear cc ff
              have R8 := row_setCell k8 q (by_.toNat : Int)
              rw [← HMO.out] at R8
              have R4 : Row (wr.drew.setCell ⟨B0 + 3, q, none⟩ (.int .u8 (by_.toNat : Int))) B0 (bs (zs 64)) 41 := row_setCell_other (w := wr.drew) f4 (by omega) _ _
              have R5 : Row (wr.drew.setCell ⟨B0 + 3, q, none⟩ (.int .u8 (by_.toNat : Int))) (B0 + 1) (bs (zs 64)) 41 := row_setCell_other (w := wr.drew) f5 (by omega) _ _
              have R7 : Row (wr.drew.setCell ⟨B0 + 3, q, none⟩ (.int .u8 (by_.toNat : Int))) (B0 + 2) (bs BB) 41 := row_setCell_other (w := wr.drew) f7 (by omega) _ _
              have RB : Below w.heap.size w (wr.drew.setCell ⟨B0 + 3, q, none⟩ (.int .u8 (by_.toNat : Int))) := fb.drew.setCell (p := ⟨B0 + 3, q, none⟩) (by show w.heap.size ≤ B0 + 3; have := hBB.out; omega) _
              have eD : wr.drew.setCell ⟨B0 + 3, q, none⟩ (.int .u8 (by_.toNat : Int)) = (wr.setCell ⟨B0 + 3, q, none⟩ (.int .u8 (by_.toNat : Int))).drew := rfl
              rw [eD] at R8 R4 R5 R7 RB
              generalize (wr.setCell ⟨B0 + 3, q, none⟩ (.int .u8 (by_.toNat : Int))).drew = W9 at R8 R4 R5 R7 RB hS ⊢
              go_wp2
              go_roundw
              case rel => exact ⟨j + 1, by go_num, by omega, R4, R5, R7, R8, RB, hS⟩
              case measure => simp [intOf]; omega
            · have hjt' : ¬ (j : Int) < (x.t.size : Int) := by omega
              have hjl : (nums x.t).take j = nums x.t := List.take_of_length_le (by rw [nums_length]; omega)
              rw [hjl] at f8
              clear d0 d65
              go_wp2
              go_roundw
              case rel => exact ⟨k + 1, by rw [hNY.out], by go_num, by omega, f4, f5, by rw [hNY.out]; exact f7, by rw [hNY.out]; exact f8, fb⟩
              case measure => simp [intOf]; omega
      · have hp' : ¬ x.pg = p := hp
        have hNX : Hid (rdW (os.take (k + 1)) p = (fd, bb, nn)) := by show _ = _; rw [HSU.out]; unfold rdS; rw [if_neg hp]
        go_wp2
        go_roundw
        case rel => exact ⟨k + 1, by rw [hNX.out], by go_num, by omega, e4, e5, by rw [hNX.out]; exact e7, by rw [hNX.out]; exact e8, eb⟩
        case measure => simp [intOf]; omega
    · have hkn' : ¬ (k : Int) < (n : Int) := by omega
      have eK : k = n := by omega
      have ht : os.take k = os := by rw [eK, ← HN.out, List.take_length]
      rw [ht] at hle a7 a8 ⊢
      obtain ⟨⟨fd, bb, nn⟩, HST⟩ : ∃ st, Hid (rdW os p = st) := ⟨_, rfl⟩
      rw [HST.out] at hle a7 a8 ⊢
      simp only at hle a7 a8 ⊢
      have HBL : Hid (bb.length = 64 ∧ nn.length = 64) := hle
      clear hle
      have hBB : Hid (w.heap.size ≤ B0) := Nat.le_of_eq HB0.out
      go_upto_region 14 with fail
      refine wp_region_held_drew (S := fun w' => Row w' (B0 + 2) (bs bb) 41 ∧ Row w' (B0 + 3) (bs nn) 41) (by kernel_rfl) ⟨a7, a8⟩ fun hS => ?_
      refine wpAnyH_take (i := 0) (v := .agg (bs bb)) rfl (by kernel_rfl) (by kernel_rfl) (by kernel_rfl) (fun _ _ _ h => h) (yields_row (by rfl) 41 (.tmp 7) rfl (B0 + 2) rfl 41 (bs bb) (fun w h => h.1) 64 5 Try.underlying41 size41 (by rw [bs_size]; exact HBL.out.1)) hS ?_
      try simp only [Act.put, List.getElem_toArray, List.getElem_cons_zero, List.getElem_cons_succ, List.setIfInBounds_toArray, List.set_cons_zero, List.set_cons_succ]
      refine wpAnyH_take (i := 1) (v := .agg (bs nn)) rfl (by kernel_rfl) (by kernel_rfl) (by kernel_rfl) (fun _ _ _ h => h) (yields_row (by rfl) 41 (.tmp 8) rfl (B0 + 3) rfl 41 (bs nn) (fun w h => h.2) 64 5 Try.underlying41 size41 (by rw [bs_size]; exact HBL.out.2)) hS ?_
      try simp only [Act.put, List.getElem_toArray, List.getElem_cons_zero, List.getElem_cons_succ, List.setIfInBounds_toArray, List.set_cons_zero, List.set_cons_succ]
      refine wpAnyH_take (i := 2) (v := .bool fd) rfl (by kernel_rfl) (by kernel_rfl) (by kernel_rfl) (fun _ _ _ h => h) (Or.inl ⟨by rfl, fun w _ => by go_simp⟩) hS ?_
      try simp only [Act.put, List.getElem_toArray, List.getElem_cons_zero, List.getElem_cons_succ, List.setIfInBounds_toArray, List.set_cons_zero, List.set_cons_succ]
      have k4 : Row wr.drew B0 (bs (zs 64)) 41 := a4
      have k5 : Row wr.drew (B0 + 1) (bs (zs 64)) 41 := a5
      have kb := ab.drew
      clear a4 a5 a7 a8 ab
      generalize wr.drew = W0 at hS k4 k5 kb ⊢
      refine wpAnyH_ready (rs := [3]) (by kernel_rfl) (by simp) ?_
      refine AllReadyH.cons rfl (fun K hK => ?_) AllReadyH.nil
      refine step_cellsW rfl 41 (.tmp 4) (.tmp 49) rfl B0 (bs bb) rfl rfl 41 _ k4 64 size41 (by rw [bs_size, zs_length]) (by rw [bs_size]; exact HBL.out.1) (bs_one _) (hK.out _ _ ⟨hS.1.other (by omega) _, hS.2.other (by omega) _⟩ fun hS => ?_)
      try simp only [Act.put, List.getElem_toArray, List.getElem_cons_zero, List.getElem_cons_succ, List.setIfInBounds_toArray, List.set_cons_zero, List.set_cons_succ]
      refine wpAnyH_ready (rs := [4]) (by kernel_rfl) (by simp) ?_
      refine AllReadyH.cons rfl (fun K hK => ?_) AllReadyH.nil
      refine step_cellsW rfl 41 (.tmp 5) (.tmp 50) rfl (B0 + 1) (bs nn) rfl rfl 41 _ (k5.other (by omega) _) 64 size41 (by rw [bs_size, zs_length]) (by rw [bs_size]; exact HBL.out.2) (bs_one _) (hK.out _ _ ⟨hS.1.other (by omega) _, hS.2.other (by omega) _⟩ fun hS => ?_)
      try simp only [Act.put, List.getElem_toArray, List.getElem_cons_zero, List.getElem_cons_succ, List.setIfInBounds_toArray, List.set_cons_zero, List.set_cons_succ]
      refine wpAnyH_take (i := 5) (v := .bool fd) rfl (by kernel_rfl) (by kernel_rfl) (by kernel_rfl) (fun _ _ _ h => h) (Or.inl ⟨by rfl, fun w _ => by go_simp⟩) hS ?_
      try simp only [Act.put, List.getElem_toArray, List.getElem_cons_zero, List.getElem_cons_succ, List.setIfInBounds_toArray, List.set_cons_zero, List.set_cons_succ]
      refine wpAnyH_done (by kernel_rfl) ?_ _
      have R4 := (k4.set (bs bb)).other (g := B0 + 1) (by omega) (bs nn)
      have R5 := (k5.other (g := B0) (by omega) (bs bb)).set (bs nn)
      have RB : Below w.heap.size w ((W0.setRow B0 (bs bb)).setRow (B0 + 1) (bs nn)) := below_setRow (below_setRow kb (by have := hBB.out; omega) _) (by have := hBB.out; omega) _
      generalize (W0.setRow B0 (bs bb)).setRow (B0 + 1) (bs nn) = W9 at R4 R5 RB ⊢
      go_wp2
      refine bodyPost_ret (ret_cell21 (fn := Try.f19) rfl _ _ B0 (B0 + 1) 41 (bs bb) (bs nn) _ (.bool fd) rfl rfl rfl R4 R5 Try.underlying41 rfl (by rw [size41, bs_size, HBL.out.1]) (by rw [size41, bs_size, HBL.out.2])) rfl ?_
      exact ⟨by rw [HST.out], RB⟩
end Go.Proofs.Ytmnbfcmamhinbab.Ws
