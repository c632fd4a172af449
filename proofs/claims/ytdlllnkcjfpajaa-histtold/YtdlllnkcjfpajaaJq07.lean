/-
  Proved here: slices.BinarySearch of rising numbers, slices.BinarySearchFunc of transactions by their starts, firstBehind. Proved here: who has committed the next version.
-/
import Derived.Test.YtdlllnkcjfpajaaJq05
import Derived.Test.YtdlllnkcjfpajaaJq06
namespace Go.Proofs.Ytdlllnkcjfpajaa
open Go.ChangeShapes Go.WideShapes Go.ChangeAt Go.RowKit
set_option linter.unusedVariables false
set_option linter.unusedSimpArgs false
set_option maxRecDepth 20000
theorem countP_cut {α : Type} (p : α → Bool) : ∀ (l : List α) (i : Nat), i ≤ l.length → (∀ t x, t < i → l[t]? = some x → p x = true) → (∀ t x, i ≤ t → l[t]? = some x → p x = false) → l.countP p = i
  | [], i, hi, _, _ => by simp at hi; simp [hi]
  | a :: r, 0, _, _, h2 => by
    rw [List.countP_eq_zero]
    intro x hx
    obtain ⟨t, ht⟩ := List.getElem?_of_mem hx
    rw [h2 t x (Nat.zero_le _) ht]; simp
  | a :: r, i + 1, hi, h1, h2 => by
    rw [List.countP_cons_of_pos (h1 0 a (Nat.succ_pos _) rfl), countP_cut p r i (by simpa using hi) (fun t x ht hx => h1 (t + 1) x (by omega) (by simpa using hx)) (fun t x h3 hx => h2 (t + 1) x (by omega) (by simpa using hx))]
theorem rising_at {l : List Int} (h : l.Pairwise (· < ·)) {i j : Nat} {x y : Int} (hij : i < j) (hi : l[i]? = some x) (hj : l[j]? = some y) : x < y := by
  obtain ⟨hi1, rfl⟩ := List.getElem?_eq_some_iff.1 hi
  obtain ⟨hj1, rfl⟩ := List.getElem?_eq_some_iff.1 hj
  exact List.pairwise_iff_getElem.1 h i j hi1 hj1 hij
theorem isNaN73 (x : Int) (w : World) : Calls Try.prog 73 #[.int .u32 x] w fun e w' => e = .returned (.bool false) ∧ w' = w := by
  go_enter Try.func73, Try.ntmps73
  go_wp2
  go_ret
  exact ⟨rfl, rfl⟩
def below_ (ys : List Int) (t : Int) : Nat := ys.countP fun x => decide (x < t)
set_option maxHeartbeats 1000000 in
theorem bsearch_any {w : World} {b cap : Nat} {cur : Array Value} {ys : List Int} (h : U4.UAt w b cur ys) (hs : ys.Pairwise (· < ·)) (n : Nat) (hn : ys.length = n) (hb : n ≤ 1000000) (t : Int) :
    Calls Try.prog 62 #[.slice (some ⟨b, 0, none⟩) n cap, .int .u32 t] w fun e w' => e = .returned (.tuple #[.int .i64 (below_ ys t), .bool (decide (t ∈ ys))]) ∧ w' = w := by
  have HC : Hid (∀ k x, ys[k]? = some x → w.cell? ⟨b, k, none⟩ = some (.int .u32 x)) := fun k x hx => h.cell k x hx
  have HS : Hid _ := hs
  have HN : Hid _ := hn
  clear h hs hn
  obtain ⟨I, HI⟩ : ∃ I, Hid (below_ ys t = I) := ⟨_, rfl⟩
  obtain ⟨F, HF⟩ : ∃ F, Hid (decide (t ∈ ys) = F) := ⟨_, rfl⟩
  rw [HI.out, HF.out]
  go_enter Try.func62, Try.ntmps62
  go_upto_region 3 with fail
  go_loopw [7, 8] (fun i j wr => ∃ lo hi : Nat, i = .int .i64 lo ∧ j = .int .i64 hi ∧ lo ≤ hi ∧ hi ≤ n ∧ wr = w ∧ (∀ k x, k < lo → ys[k]? = some x → x < t) ∧ (∀ k x, hi ≤ k → ys[k]? = some x → t ≤ x)) (fun i j _ => (intOf j).toNat - (intOf i).toNat)
  case atStart => exact ⟨0, n, rfl, rfl, by omega, by omega, rfl, fun k x hk => by omega, fun k x hk hx => by have := (List.getElem?_eq_some_iff.1 hx).1; have := HN.out; omega⟩
  case round =>
    obtain ⟨lo, hi, rfl, rfl, hlh, hin, hww, h1, h2⟩ := hrel
    subst hww
    have H1 : Hid _ := h1
    have H2 : Hid _ := h2
    clear h1 h2
    by_cases hlt : lo < hi
    · have hlt' : (lo : Int) < (hi : Int) := by omega
      obtain ⟨x, hx⟩ : ∃ x, ys[(lo + hi) / 2]? = some x := ⟨_, List.getElem?_eq_getElem (by rw [HN.out]; omega)⟩
      have c0 := HC.out _ _ hx
      have HX : Hid _ := hx
      clear hx
      by_cases hxt : x < t
      · have hless := U4.less_any x t true (decide_eq_true hxt) wr
        go_wp2_with (go_at_call 72; refine hless.mono ?_; clear hless; rintro e wb ⟨he, hw2⟩; rw [hw2]; clear hw2 wb; obtain rfl := he)
        go_roundw
        case rel => exact ⟨(lo + hi) / 2 + 1, hi, by rw [show ((lo : Int) + (hi : Int)) / 2 + 1 = (((lo + hi) / 2 + 1 : Nat) : Int) by omega], rfl, by omega, hin, trivial, fun k y hk hy => by
          by_cases e : k = (lo + hi) / 2
          · subst e; have := HX.out; rw [hy] at this; cases this; exact hxt
          · exact Int.lt_trans (rising_at HS.out (by omega) hy HX.out) hxt, H2.out⟩
        case measure => simp [intOf]; omega
      · have hless := U4.less_any x t false (decide_eq_false hxt) wr
        go_wp2_with (go_at_call 72; refine hless.mono ?_; clear hless; rintro e wb ⟨he, hw2⟩; rw [hw2]; clear hw2 wb; obtain rfl := he)
        go_roundw
        case rel => exact ⟨lo, (lo + hi) / 2, rfl, by rw [show ((lo : Int) + (hi : Int)) / 2 = (((lo + hi) / 2 : Nat) : Int) by omega], by omega, by omega, trivial, H1.out, fun k y hk hy => by
          by_cases e : k = (lo + hi) / 2
          · subst e; have := HX.out; rw [hy] at this; cases this; omega
          · have := rising_at HS.out (by omega) HX.out hy; omega⟩
        case measure => simp [intOf]; omega
    · obtain rfl : hi = lo := by omega
      have hlt' : ¬ (hi : Int) < (hi : Int) := by omega
      have hI : I = hi := by
        rw [← HI.out]
        exact countP_cut _ ys hi (by rw [HN.out]; exact hin) (fun k x hk hx => decide_eq_true (H1.out k x hk hx)) (fun k x hk hx => decide_eq_false (by have := H2.out k x hk hx; omega))
      subst hI
      by_cases hin2 : I < n
      · have hin2' : (I : Int) < (n : Int) := by omega
        obtain ⟨x, hx⟩ : ∃ x, ys[I]? = some x := ⟨_, List.getElem?_eq_getElem (by rw [HN.out]; omega)⟩
        have c0 := HC.out _ _ hx
        by_cases hxt : x = t
        · have hF : F = true := by
            rw [← HF.out]; exact decide_eq_true (by rw [← hxt]; exact List.mem_of_getElem? hx)
          subst hF
          have hb2 : (x == t) = true := by simp [hxt]
          subst hxt
          clear hx
          go_wp2
          go_ret2
          exact ⟨rfl, rfl⟩
        · have hF : F = false := by
            rw [← HF.out]
            refine decide_eq_false fun q => ?_
            obtain ⟨k, hk⟩ := List.getElem?_of_mem q
            by_cases q1 : k < I
            · have := H1.out k t q1 hk; omega
            · by_cases q2 : k = I
              · rw [q2, hx] at hk; exact hxt (Option.some.inj hk)
              · have := rising_at HS.out (by omega : I < k) hx hk
                have := H2.out I x (Nat.le_refl _) hx
                omega
          subst hF
          have hb2 : (x == t) = false := by simp [hxt]
          have hnan := isNaN73 x wr
          clear hx hxt
          go_wp2_with (go_at_call 73; refine hnan.mono ?_; clear hnan; rintro e wb ⟨he, hw2⟩; rw [hw2]; clear hw2 wb; obtain rfl := he)
          go_ret2
          exact ⟨rfl, rfl⟩
      · have hin2' : ¬ (I : Int) < (n : Int) := by omega
        have hF : F = false := by
          rw [← HF.out]
          refine decide_eq_false fun q => ?_
          obtain ⟨k, hk⟩ := List.getElem?_of_mem q
          have := (List.getElem?_eq_some_iff.1 hk).1
          have := HN.out
          have := H1.out k t (by omega) hk
          omega
        subst hF
        go_wp2
        go_ret2
        exact ⟨rfl, rfl⟩
theorem bsearch_nil (t : Int) (w : World) : Calls Try.prog 62 #[.slice none 0 0, .int .u32 t] w fun e w' => e = .returned (.tuple #[.int .i64 0, .bool false]) ∧ w' = w := by
  go_enter Try.func62, Try.ntmps62
  go_upto_region 3 with fail
  go_loopw [7, 8] (fun i j wr => i = .int .i64 0 ∧ j = .int .i64 0 ∧ wr = w) (fun i j _ => 0)
  case atStart => exact ⟨rfl, rfl, rfl⟩
  case round =>
    obtain ⟨rfl, rfl, hww⟩ := hrel
    subst hww
    go_wp2
    go_ret2
    exact ⟨rfl, rfl⟩
theorem wpList_load_any_g {P : Program} {ops : Array Oper} {rest : List Oper} {op : Oper} {a : Act} {w : World} {Q : Exit → Act → World → Prop} (hw : Region.wanted op (yielded ops a.tmps) = true) (ty : TypeId) (x : Operand) (ho : op.op = .load ty x)
    (p : Addr) (hx : a.eval x = .pointer (some p)) (cs : List Value) (d : TypeDesc) (hc : ∀ j v, cs[j]? = some v → w.cell? (p.add j) = some v)
    (hu : P.underlying ty = some d) (hd : d.isRow = true) (hi : (P.info? ty).map (·.size) = some cs.length)
    (h : wpList P ops Q rest (a.put op.dst (.agg cs.toArray)) w) : wpList P ops Q (op :: rest) a w := by
  refine BigFrame.wpList_want hw fun K hK => ?_
  have hl : (loadCells p cs.length).run P w = .ok cs.toArray w := run_loadCells_list (P := P) w p cs hc
  have hrun : (loadVar ty p).run P w = .ok (.agg cs.toArray) w := by
    cases hq : P.info? ty with
    | none => simp [hq] at hi
    | some i =>
      have hs : i.size = cs.length := by simpa [hq] using hi
      have hagg : (isAgg ty).run P w = .ok true w := by
        unfold isAgg
        rw [Sem.run_bind, run_underlying hu w]
        cases d <;> simp_all
      simp [loadVar, Sem.run_bind, hagg, sizeOf, typeInfo, hq, hs, hl]
  unfold Oper.wp execOp
  simp only [ho, hx, Instr.loadAt, Instr.sureAddr, Sem.run_bind, Sem.run_pure, Result.andThen_ok, hrun]
  exact hK _ _ h
def starts (hs : List Hm) (t : Int) : Nat := hs.countP fun h => decide (h.p.st < t)
theorem starts_at {hs : List Hm} (h : hs.Pairwise fun a b => a.p.st ≤ b.p.st) {i j : Nat} {x y : Hm} (hij : i ≤ j) (hi : hs[i]? = some x) (hj : hs[j]? = some y) : x.p.st ≤ y.p.st := by
  obtain ⟨hi1, rfl⟩ := List.getElem?_eq_some_iff.1 hi
  obtain ⟨hj1, rfl⟩ := List.getElem?_eq_some_iff.1 hj
  by_cases e : i = j
  · subst e; exact Int.le_refl _
  · exact List.pairwise_iff_getElem.1 h i j hi1 hj1 (by omega)
def Bsf (w : World) (hs : List Hm) (t : Int) (e : Ending) (w' : World) : Prop := ∃ B, e = .returned (.tuple #[.int .i64 (starts hs t), .bool B]) ∧ Below w.heap.size w w'
set_option maxHeartbeats 1000000 in
theorem bsf_any {w : World} {lv : Value} {hs : List Hm} (hh : Helds w lv hs) (hs' : hs.Pairwise fun a b => a.p.st ≤ b.p.st) (hb : hs.length ≤ 1000000) (t : Int) :
    Calls Try.prog 74 #[lv, .int .u32 t, .func (.func 75) #[] #[]] w fun e w' => Bsf w hs t e w' := by
  obtain ⟨oa, cap, rfl, hcs⟩ := hh.hold
  have HC : Hid _ := hcs
  have HS : Hid _ := hs'
  clear hcs hh hs'
  obtain ⟨I, HI⟩ : ∃ I, Hid (starts hs t = I) := ⟨_, rfl⟩
  have HPP : Hid (∀ B w', Below w.heap.size w w' → Bsf w hs t (.returned (.tuple #[.int .i64 (starts hs t), .bool B])) w') := fun B w' h => ⟨B, rfl, h⟩
  rw [HI.out] at HPP
  generalize Bsf w hs t = PP at HPP ⊢
  obtain ⟨n, HN⟩ : ∃ n, Hid (hs.length = n) := ⟨_, rfl⟩
  rw [HN.out] at hb HC ⊢
  go_enter Try.func74, Try.ntmps74
  go_upto_region 3 with fail
  go_loopw [9, 10] (fun i j wr => ∃ lo hi : Nat, i = .int .i64 lo ∧ j = .int .i64 hi ∧ lo ≤ hi ∧ hi ≤ n ∧ Below w.heap.size w wr ∧ (∀ k x, k < lo → hs[k]? = some x → x.p.st < t) ∧ (∀ k x, hi ≤ k → hs[k]? = some x → t ≤ x.p.st)) (fun i j _ => (intOf j).toNat - (intOf i).toNat)
  case atStart => exact ⟨0, n, rfl, rfl, by omega, by omega, Below.refl _ _, fun k x hk => by omega, fun k x hk hx => by have := (List.getElem?_eq_some_iff.1 hx).1; have := HN.out; omega⟩
  case round =>
    obtain ⟨lo, hi, rfl, rfl, hlh, hin, hww, h1, h2⟩ := hrel
    have H1 : Hid _ := h1
    have H2 : Hid _ := h2
    clear h1 h2
    by_cases hlt : lo < hi
    · have hlt' : (lo : Int) < (hi : Int) := by omega
      obtain ⟨a, x, rfl, hx, hcell⟩ := HC.out ((lo + hi) / 2) (by omega)
      have hcw : ∀ q u, x.o.cells[q]? = some u → wr.cell? ((a.add ((lo + hi) / 2 * 5)).add q) = some u := fun q u hq => cell_keep (hcell q u hq) hww
      have HX : Hid _ := hx
      clear hx hcell
      have hcall := behind_any x.o t wr
      by_cases hxt : x.p.st < t
      · have hneg : Hid (cmpI x.o.start t < 0) := cmpI_neg.2 hxt
        have hneg' := hneg.out
        generalize cmpI x.o.start t = cc at hcall hneg'
        go_wp2_with (first
          | (refine wpList_load_any rfl 39 (.tmp 27) rfl (a.add ((lo + hi) / 2 * 5)) rfl x.o.cells _ hcw Try.underlying39 rfl Pa.size39 ?_)
          | (go_at_call 75; refine hcall.mono ?_; clear hcall; rintro e wb ⟨he, hb2⟩; obtain rfl := he))
        go_roundw
        case rel => exact ⟨(lo + hi) / 2 + 1, hi, by rw [show ((lo : Int) + (hi : Int)) / 2 + 1 = (((lo + hi) / 2 + 1 : Nat) : Int) by omega], rfl, by omega, hin, below_trans hww hb2, fun k y hk hy => by
          have := starts_at HS.out (by omega) hy HX.out; omega, H2.out⟩
        case measure => simp [intOf]; omega
      · have hneg' : ¬ cmpI x.o.start t < 0 := fun q => hxt (cmpI_neg.1 q)
        generalize cmpI x.o.start t = cc at hcall hneg'
        go_wp2_with (first
          | (refine wpList_load_any rfl 39 (.tmp 27) rfl (a.add ((lo + hi) / 2 * 5)) rfl x.o.cells _ hcw Try.underlying39 rfl Pa.size39 ?_)
          | (go_at_call 75; refine hcall.mono ?_; clear hcall; rintro e wb ⟨he, hb2⟩; obtain rfl := he))
        go_roundw
        case rel => exact ⟨lo, (lo + hi) / 2, rfl, by rw [show ((lo : Int) + (hi : Int)) / 2 = (((lo + hi) / 2 : Nat) : Int) by omega], by omega, by omega, below_trans hww hb2, H1.out, fun k y hk hy => by
          have := starts_at HS.out hk HX.out hy; omega⟩
        case measure => simp [intOf]; omega
    · obtain rfl : hi = lo := by omega
      have hlt' : ¬ (hi : Int) < (hi : Int) := by omega
      have hI : I = hi := by
        rw [← HI.out]
        exact countP_cut _ hs hi (by rw [HN.out]; exact hin) (fun k x hk hx => decide_eq_true (H1.out k x hk hx)) (fun k x hk hx => decide_eq_false (by have := H2.out k x hk hx; omega))
      subst hI
      have HW : Hid _ := hww
      by_cases hin2 : I < n
      · have hin2' : (I : Int) < (n : Int) := by omega
        obtain ⟨a, x, rfl, hx, hcell⟩ := HC.out I hin2
        have hcw : ∀ q u, x.o.cells[q]? = some u → wr.cell? ((a.add (I * 5)).add q) = some u := fun q u hq => cell_keep (hcell q u hq) hww
        have hcall := behind_any x.o t wr
        clear hx hcell hww
        obtain ⟨B, HB⟩ : ∃ B, Hid ((cmpI x.o.start t == 0) = B) := ⟨_, rfl⟩
        have HBB := HB.out
        generalize cmpI x.o.start t = cc at hcall HBB
        go_wp2_with (first
          | (refine wpList_load_any_g (by rfl) 39 (.tmp 43) rfl (a.add (I * 5)) rfl x.o.cells _ hcw Try.underlying39 rfl Pa.size39 ?_)
          | (go_at_call 75; refine hcall.mono ?_; clear hcall; rintro e wb ⟨he, hb2⟩; obtain rfl := he; have hfin := HPP.out B _ (below_trans HW.out hb2)))
        exact hfin
      · have hin2' : ¬ (I : Int) < (n : Int) := by omega
        have hfin := HPP.out false _ hww
        clear hww
        go_wp2
        exact hfin
theorem firstBehind_any {w : World} {g : Nat} {lv : Value} {cs : Array Value} {hs : List Hm} (rg : Row w g cs 96) (c0 : cs[0]? = some lv) (hh : Helds w lv hs) (hs' : hs.Pairwise fun a b => a.p.st ≤ b.p.st) (hb : hs.length ≤ 1000000) (t : Int) :
    Calls Try.prog 64 #[.pointer (some ⟨g, 0, none⟩), .int .u32 t] w fun e w' => e = .returned (.int .i64 (starts hs t)) ∧ Below w.heap.size w w' := by
  have hc := bsf_any hh hs' hb t
  have k0 := row_at rg 0 _ c0
  have HB : Hid (∀ e w', Bsf w hs t e w' → ∃ B, e = .returned (.tuple #[.int .i64 (starts hs t), .bool B]) ∧ Below w.heap.size w w') := fun _ _ h => h
  clear hh hs' rg
  generalize Bsf w hs t = PP at hc HB
  go_enter Try.func64, Try.ntmps64
  go_wp2_with (go_at_call 74; refine hc.mono ?_; clear hc; intro e w2 hq; obtain ⟨B, he, hb2⟩ := HB.out _ _ hq; obtain rfl := he; clear hq)
  go_ret
  exact ⟨rfl, hb2⟩
def NxI (hs : List Hm) (v : Int × Int) (j : Nat) : Prop := ∃ t, WrI hs j (v.1, t) ∧ v.2 < t ∧ ∀ k t', WrI hs k (v.1, t') → v.2 < t' → t ≤ t'
structure HAt (w : World) (g mw mc md mp : Nat) (lv : Value) (hs : List Hm) (f : Int × Int → Option Value) (nw nc : Nat) (F : Int → Option Value) (G : Int → List Int) : Prop where
  row : Row w g #[lv, .map (some mw), .map (some mc), .map (some md), .map (some mp)] 96
  list : Helds w lv hs
  wr : KMap E46 w mw nw f
  fn : Fn hs f
  vt : VAt w mc nc F G
  ver : ∀ p, E44.ok p → (G p).Pairwise (· < ·) ∧ ∀ t, t ∈ G p ↔ ∃ j, WrI hs j (p, t)
  few : hs.length ≤ 12
  uni : Uni hs
  st : hs.Pairwise fun a b => a.p.st ≤ b.p.st
  small : nw ≤ 2000000
theorem HAt.below {w w' : World} {g mw mc md mp : Nat} {lv : Value} {hs : List Hm} {f : Int × Int → Option Value} {nw nc : Nat} {F : Int → Option Value} {G : Int → List Int} (h : HAt w g mw mc md mp lv hs f nw nc F G) (hb : Below w.heap.size w w') : HAt w' g mw mc md mp lv hs f nw nc F G :=
  { h with row := h.row.below hb h.row.lt, list := h.list.keep hb, wr := h.wr.below hb, vt := h.vt.below hb }
theorem HAt.maps {B : Nat → Prop} {w w' : World} {g mw mc md mp : Nat} {lv : Value} {hs : List Hm} {f : Int × Int → Option Value} {nw nc : Nat} {F : Int → Option Value} {G : Int → List Int} (h : HAt w g mw mc md mp lv hs f nw nc F G) (ho : Off B w w')
    (hB : ∀ b, B b → ∃ es cl, w.heap[b]? = some (.map es cl)) (h1 : ¬ B mw) (h2 : ¬ B mc) : HAt w' g mw mc md mp lv hs f nw nc F G :=
  { h with row := h.row.off ho (fun q => by obtain ⟨es, cl, hb⟩ := hB _ q; have := h.row; unfold Row at this; rw [this] at hb; cases hb), list := h.list.maps hB ho, wr := h.wr.off ho h1, vt := h.vt.off ho h2 (fun j cs t x q hc => by obtain ⟨es, cl, hb⟩ := hB _ q; rw [hb] at hc; cases hc) }
theorem HAt.rng {w w' : World} {r g mw mc md mp : Nat} {lv : Value} {hs : List Hm} {f : Int × Int → Option Value} {nw nc : Nat} {F : Int → Option Value} {G : Int → List Int} (h : HAt w g mw mc md mp lv hs f nw nc F G) (ho : Off (· = r) w w')
    (hB : ∀ cs t x, w.heap[r]? = some (.cells cs t x) → False) (h1 : ¬ mw = r) (h2 : ¬ mc = r) : HAt w' g mw mc md mp lv hs f nw nc F G := by
  have hc : ∀ p u, w.cell? p = some u → w'.cell? p = some u := fun p u hp => by
    rw [← hp]
    refine World.cell?_of_block (ho.block _ ?_ ?_)
    · unfold World.cell? at hp
      by_cases q : p.block < w.heap.size
      · exact q
      · rw [Array.getElem?_eq_none (by omega)] at hp; cases hp
    · intro q
      unfold World.cell? at hp
      rw [q] at hp
      cases ho : w.heap[r]? with
      | none => rw [ho] at hp; cases hp
      | some o =>
        rw [ho] at hp
        cases o with
        | cells cs t x => exact hB _ _ _ ho
        | _ => cases hp
  have hS : ∀ v os, Sn.Olds w v os → Sn.Olds w' v os := fun v os h => h.elim Or.inl (fun ⟨a, cap, e, q⟩ => Or.inr ⟨a, cap, e, fun j u hj => hc _ _ (q j u hj)⟩)
  have hP : ∀ v os, Pg.Olds w v os → Pg.Olds w' v os := fun v os h => h.elim Or.inl (fun ⟨a, cap, e, q⟩ => Or.inr ⟨a, cap, e, fun j u hj => hc _ _ (q j u hj)⟩)
  have hA : ∀ v os, Pa.Olds w v os → Pa.Olds w' v os := fun v os h => h.elim Or.inl (fun ⟨a, cap, e, q⟩ => Or.inr ⟨a, cap, e, fun j u hj => hc _ _ (q j u hj)⟩)
  exact { h with row := h.row.off ho (fun q => by have := h.row; unfold Row at this; rw [q] at this; exact hB _ _ _ this), list := ⟨hA _ _ h.list.row, fun x hx => ⟨hS _ _ (h.list.each x hx).rs, hP _ _ (h.list.each x hx).ws⟩, h.list.fit⟩, wr := h.wr.off ho h1, vt := h.vt.off ho h2 (fun j cs t x q hc => by rw [q] at hc; exact hB _ _ _ hc) }
def Next (hs : List Hm) (v : Int × Int) (w : World) (e : Ending) (w' : World) : Prop :=
  ∃ (j : Int) (b : Bool), e = .returned (.tuple #[.int .i64 j, .bool b]) ∧ Below w.heap.size w w' ∧ (b = true → ∃ k : Nat, j = k ∧ NxI hs v k) ∧ (b = false → ∀ k, ¬ NxI hs v k)
theorem below_len {ys : List Int} {t : Int} : below_ ys t ≤ ys.length := List.countP_le_length
theorem below_spec {ys : List Int} (hs : ys.Pairwise (· < ·)) (t : Int) : (∀ k x, k < below_ ys t → ys[k]? = some x → x < t) ∧ ∀ k x, below_ ys t ≤ k → ys[k]? = some x → t ≤ x := by
  induction ys with
  | nil => exact ⟨fun k x _ h => by simp at h, fun k x _ h => by simp at h⟩
  | cons a r ih =>
    obtain ⟨h1, h2⟩ := List.pairwise_cons.1 hs
    obtain ⟨i1, i2⟩ := ih h2
    by_cases ha : a < t
    · have e : below_ (a :: r) t = below_ r t + 1 := by unfold below_; rw [List.countP_cons_of_pos (by simpa using ha)]
      rw [e]
      refine ⟨fun k x hk hx => ?_, fun k x hk hx => ?_⟩
      · cases k with
        | zero => simp at hx; subst hx; exact ha
        | succ k => exact i1 k x (by omega) (by simpa using hx)
      · cases k with
        | zero => omega
        | succ k => exact i2 k x (by omega) (by simpa using hx)
    · have e0 : below_ r t = 0 := by
        unfold below_
        rw [List.countP_eq_zero]
        intro x hx
        have := h1 x hx
        simp; omega
      have e : below_ (a :: r) t = 0 := by unfold below_; rw [List.countP_cons_of_neg (by simpa using ha)]; exact e0
      rw [e]
      refine ⟨fun k x hk hx => by omega, fun k x hk hx => ?_⟩
      cases k with
      | zero => simp at hx; subst hx; omega
      | succ k =>
        have := h1 x (List.mem_of_getElem? (by simpa using hx))
        omega
theorem next_pos {ys : List Int} (hs : ys.Pairwise (· < ·)) (t : Int) (q : Nat) (hq : below_ ys t + (if decide (t ∈ ys) then 1 else 0) = q) : q ≤ ys.length ∧ (∀ k x, k < q → ys[k]? = some x → x ≤ t) ∧ ∀ k x, q ≤ k → ys[k]? = some x → t < x := by
  obtain ⟨h1, h2⟩ := below_spec hs t
  have hl := below_len (ys := ys) (t := t)
  by_cases hm : t ∈ ys
  · rw [decide_eq_true hm, if_pos rfl] at hq
    obtain ⟨m, hmt⟩ := List.getElem?_of_mem hm
    have hml := (List.getElem?_eq_some_iff.1 hmt).1
    have m1 : ¬ m < below_ ys t := fun q => by have := h1 m t q hmt; omega
    have m2 : ¬ below_ ys t < m := fun q => by
      obtain ⟨y, hy⟩ : ∃ y, ys[below_ ys t]? = some y := ⟨_, List.getElem?_eq_getElem (by omega)⟩
      have := h2 _ y (Nat.le_refl _) hy
      have := rising_at hs q hy hmt
      omega
    obtain rfl : m = below_ ys t := by omega
    refine ⟨by omega, fun k x hk hx => ?_, fun k x hk hx => rising_at hs (by omega) hmt hx⟩
    by_cases e : k = below_ ys t
    · subst e; rw [hmt] at hx; cases hx; omega
    · have := h1 k x (by omega) hx; omega
  · rw [decide_eq_false hm] at hq
    simp at hq
    subst hq
    refine ⟨hl, fun k x hk hx => Int.le_of_lt (h1 k x hk hx), fun k x hk hx => ?_⟩
    have := h2 k x hk hx
    have : t ≠ x := fun e => hm (e ▸ List.mem_of_getElem? hx)
    omega
set_option maxHeartbeats 2000000 in
theorem next_any {w : World} {g mw mc md mp : Nat} {lv : Value} {hs : List Hm} {f : Int × Int → Option Value} {nw nc : Nat} {F : Int → Option Value} {G : Int → List Int} (h : HAt w g mw mc md mp lv hs f nw nc F G) (v : Int × Int) (hv : seenok v) :
    Calls Try.prog 44 #[.pointer (some ⟨g, 0, none⟩), .agg #[.int .u16 v.1, .int .u32 v.2]] w fun e w' => Next hs v w e w' := by
  have HH : Hid _ := h
  have HOK : Hid (E44.ok v.1) := hv.1
  have rX : Row (w.alloc (.cells #[.int .u16 v.1, .int .u32 v.2] 46)) w.heap.size #[.int .u16 v.1, .int .u32 v.2] 46 := Row.new _ _ _
  have b1 : Below w.heap.size w (w.alloc (.cells #[.int .u16 v.1, .int .u32 v.2] 46)) := (Below.refl _ _).alloc (Nat.le_refl _) _
  have h1 := h.below b1
  have rg1 := h1.row
  have vt1 := h1.vt
  obtain ⟨u, HU0⟩ : ∃ u, Hid ((F v.1).getD (.slice none 0 0) = u) := ⟨_, rfl⟩
  have HNX : Hid (∀ (j : Int) (b : Bool) w', Below w.heap.size w w' → (b = true → ∃ k : Nat, j = k ∧ NxI hs v k) → (b = false → ∀ k, ¬ NxI hs v k) → Next hs v w (.returned (.tuple #[.int .i64 j, .bool b])) w') := fun j b w' a c d => ⟨j, b, rfl, a, c, d⟩
  generalize Next hs v w = PP at HNX ⊢
  have HB1 : Hid _ := b1
  clear h h1 hv b1
  go_enter Try.func44, Try.ntmps44
  go_upto_region 1 with fail
  generalize hX : w.heap.size = X at rX ⊢
  generalize w.alloc (.cells #[.int .u16 v.1, .int .u32 v.2] 46) = w1 at rX rg1 vt1 HB1 ⊢
  refine wp_region_held_drew (S := fun w' => Row w' g #[lv, .map (some mw), .map (some mc), .map (some md), .map (some mp)] 96 ∧ Row w' X #[.int .u16 v.1, .int .u32 v.2] 46 ∧ KMap E44 w' mc nc F) (by kernel_rfl) ⟨rg1, rX, vt1.1⟩ fun hS => ?_
  refine tkH (i := 0) (v := .pointer (some ⟨g, 0, none⟩)) rfl (by kernel_rfl) (fun _ _ _ h => h) (Or.inl ⟨by rfl, fun w _ => by go_simp⟩) hS ?_
  try simp only [Act.put, nz0, nz1, nz2, nz3, nz4, nz5]
  refine tkH (i := 1) (v := .pointer (some ⟨g, 0, none⟩)) rfl (by kernel_rfl) (fun _ _ _ h => h) (Or.inl ⟨by rfl, fun w _ => by go_simp⟩) hS ?_
  try simp only [Act.put, nz0, nz1, nz2, nz3, nz4, nz5]
  refine tkH (i := 2) (v := .pointer (some ⟨g, 2, none⟩)) rfl (by kernel_rfl) (fun _ _ _ h => h) (Or.inl ⟨by rfl, fun w _ => by go_simp⟩) hS ?_
  try simp only [Act.put, nz0, nz1, nz2, nz3, nz4, nz5]
  refine tkH (i := 3) (v := .map (some mc)) rfl (by kernel_rfl) (fun _ _ _ h => h) (Or.inl ⟨by rfl, fun w h => by have c := row_at h.1 2 _ rfl; go_simp⟩) hS ?_
  try simp only [Act.put, nz0, nz1, nz2, nz3, nz4, nz5]
  refine tkH (i := 4) (v := .pointer (some ⟨X, 0, none⟩)) rfl (by kernel_rfl) (fun _ _ _ h => h) (Or.inl ⟨by rfl, fun w _ => by go_simp⟩) hS ?_
  try simp only [Act.put, nz0, nz1, nz2, nz3, nz4, nz5]
  refine tkH (i := 5) (v := .int .u16 v.1) rfl (by kernel_rfl) (fun _ _ _ h => h) (Or.inl ⟨by rfl, fun w h => by have c := row_at h.2.1 0 _ rfl; go_simp⟩) hS ?_
  try simp only [Act.put, nz0, nz1, nz2, nz3, nz4, nz5]
  refine tkH (i := 6) (v := u) rfl (by kernel_rfl) (fun _ _ _ h => h) (yields_lookup (by rfl) 93 (.tmp 12) (.tmp 14) false rfl _ _ _ rfl rfl (fun w h => by have q := KMap.look Try.underlying93 (zero124 w) h.2.2 HOK.out; rw [HU0.out] at q; exact q)) hS ?_
  try simp only [Act.put, nz0, nz1, nz2, nz3, nz4, nz5]
  refine tkH (i := 7) (v := u) rfl (by kernel_rfl) (fun _ _ _ h => h) (Or.inl ⟨by rfl, fun w _ => by go_simp⟩) hS ?_
  try simp only [Act.put, nz0, nz1, nz2, nz3, nz4, nz5]
  refine wpAnyH_done (by kernel_rfl) ?_ _
  have HD : Hid (Below w.heap.size w w1.drew) := HB1.out.drew
  have HH2 : Hid (HAt w1.drew g mw mc md mp lv hs f nw nc F G) := HH.out.below HD.out
  have HV : Hid (F v.1 = none ∧ G v.1 = [] ∧ u = .slice none 0 0 ∨ (F v.1 = some u ∧ UR w1.drew u (G v.1))) := by
    have q := HH2.out.vt.2 v.1 HOK.out
    cases hF : F v.1 with
    | none => rw [hF] at HU0; exact Or.inl ⟨rfl, q.1 hF, HU0.out.symm⟩
    | some u' =>
      rw [hF] at HU0
      have e : u' = u := HU0.out
      subst e
      exact Or.inr ⟨rfl, q.2 _ hF⟩
  clear HB1 vt1 rg1 hS
  have rX1 : Row w1.drew X #[.int .u16 v.1, .int .u32 v.2] 46 := rX
  clear rX
  generalize w1.drew = w2 at HD HH2 HV rX1 ⊢
  rcases HV.out with ⟨hF, hG, rfl⟩ | ⟨hF, b, cap, cur, rfl, hU⟩
  · have hbs := bsearch_nil v.2 w2
    have hno : ∀ k, ¬ NxI hs v k := fun k ⟨t, h1, _⟩ => by
      have := (HH2.out.ver v.1 HOK.out).2 t
      rw [hG] at this
      have := this.2 ⟨k, h1⟩
      simp at this
    have hfin := HNX.out 0 false w2 HD.out (fun q => by cases q) (fun _ => hno)
    have f1 : w2.cell? ⟨X, 1, none⟩ = some (.int .u32 v.2) := row_at rX1 1 _ rfl
    clear hno hF hG
    go_wp2_with (go_at_call 62; refine hbs.mono ?_; clear hbs; rintro e wb ⟨he, hww⟩; rw [hww]; clear hww wb; obtain rfl := he)
    exact hfin
  · obtain ⟨n, HN⟩ : ∃ n, Hid ((G v.1).length = n) := ⟨_, rfl⟩
    have hver := HH2.out.ver v.1 HOK.out
    have hlen : n ≤ 1000000 := by
      rw [← HN.out]
      have := nodup_le (l := G v.1) (m := hs.map fun h => h.p.co) ((hver.1).imp (fun {a b} h e => by omega)) (fun t ht => by
        obtain ⟨j, h', q1, _, q3⟩ := (hver.2 t).1 ht
        exact List.mem_map.2 ⟨h', List.mem_of_getElem? q1, q3.symm⟩)
      have := HH2.out.few
      simp at *
      omega
    have hbs := bsearch_any (cap := cap) hU hver.1 n HN.out hlen v.2
    rw [HN.out]
    have f1 : w2.cell? ⟨X, 1, none⟩ = some (.int .u32 v.2) := row_at rX1 1 _ rfl
    obtain ⟨bl, HBL⟩ : ∃ bl, Hid (below_ (G v.1) v.2 = bl) := ⟨_, rfl⟩
    have hbl := below_len (ys := G v.1) (t := v.2)
    obtain ⟨q, HQ⟩ : ∃ q, Hid (below_ (G v.1) v.2 + (if decide (v.2 ∈ G v.1) then 1 else 0) = q) := ⟨_, rfl⟩
    obtain ⟨IN, HIN⟩ : ∃ IN, Hid (decide (v.2 ∈ G v.1) = IN) := ⟨_, rfl⟩
    have HNP : Hid _ := next_pos hver.1 v.2 q HQ.out
    rw [HBL.out, HIN.out] at hbs HQ
    rw [HBL.out] at hbl
    rw [HN.out] at hbl HNP
    have HVER : Hid _ := hver
    have hqn : q ≤ n := HNP.out.1
    have ADD : Hid (IntKind.i64.wrap ((bl : Int) + 1) = (bl : Int) + 1) := by show _ = _; rw [IntKind.wrap_i64]; omega
    have Hb1 : bl < 1000001 := by omega
    have hQI : ∀ (I2 : Bool), IN = I2 → (bl : Int) + (if I2 then 1 else 0) = (q : Int) := fun I2 e => by
      have := HQ.out; rw [e] at this; cases I2 <;> simp at this ⊢ <;> omega
    by_cases hqe : q = n
    · have hno : ∀ k, ¬ NxI hs v k := fun k ⟨t, h1, h2, _⟩ => by
        have ht := (HVER.out.2 t).2 ⟨k, h1⟩
        obtain ⟨m, hm⟩ := List.getElem?_of_mem ht
        have hml := (List.getElem?_eq_some_iff.1 hm).1
        have := HNP.out.2.1 m t (by have := HN.out; omega) hm
        omega
      have hfin := HNX.out 0 false w2 HD.out (fun q => by cases q) (fun _ => hno)
      clear hno hver hU
      cases IN
      · have e1 : ((bl : Int) == (n : Int)) = true := by have := hQI false rfl; simp at this ⊢; omega
        clear hQI hbl hqn hqe
        go_wp2_with (go_at_call 62; refine hbs.mono ?_; clear hbs; rintro e wb ⟨he, hww⟩; rw [hww]; clear hww wb; obtain rfl := he)
        exact hfin
      · have e1 : ((bl : Int) + 1 == (n : Int)) = true := by have := hQI true rfl; simp at this ⊢; omega
        have ad := ADD.out
        clear hQI hbl hqn hqe
        go_wp2_with (go_at_call 62; refine hbs.mono ?_; clear hbs; rintro e wb ⟨he, hww⟩; rw [hww]; clear hww wb; obtain rfl := he)
        exact hfin
    · have hqn2 : q < n := by omega
      obtain ⟨t, ht⟩ : ∃ t, (G v.1)[q]? = some t := ⟨_, List.getElem?_eq_getElem (by rw [HN.out]; exact hqn2)⟩
      obtain ⟨j, hj⟩ := (HVER.out.2 t).1 (List.mem_of_getElem? ht)
      have hnx : NxI hs v j := ⟨t, hj, HNP.out.2.2 q t (Nat.le_refl _) ht, fun k t' h1 h2 => by
        have ht' := (HVER.out.2 t').2 ⟨k, h1⟩
        obtain ⟨m, hm⟩ := List.getElem?_of_mem ht'
        by_cases e : m < q
        · have := HNP.out.2.1 m t' e hm; omega
        · by_cases e2 : m = q
          · subst e2; rw [ht] at hm; cases hm; omega
          · have := rising_at HVER.out.1 (by omega : q < m) ht hm; omega⟩
      have HNJ : Hid (NxI hs v j) := hnx
      have ct : w2.drew.cell? ⟨b, q, none⟩ = some (.int .u32 t) := hU.cell q t ht
      have rg2 : Row w2.drew g #[lv, .map (some mw), .map (some mc), .map (some md), .map (some mp)] 96 := HH2.out.row
      have wr2 : KMap E46 w2.drew mw nw f := HH2.out.wr
      have rX1' : Row w2.drew X #[.int .u16 v.1, .int .u32 v.2] 46 := rX1
      have HLK : Hid (∀ w, KMap E46 w mw nw f → (Instr.lookup 92 (.map (some mw)) (.agg #[.int .u16 v.1, .int .u32 t]) false).run Try.prog w = .ok (.int .i64 (j : Int)) w) := fun w hm => by
        have q := KMap.look Try.underlying92 (zero3 w) hm (hj.ok HH2.out.list.fit)
        rw [(HH2.out.fn _ _).2 ⟨j, rfl, hj⟩] at q
        exact q
      have hfin := HNX.out j true w2.drew HD.out.drew (fun _ => ⟨j, rfl, HNJ.out⟩) (fun q => by cases q)
      have i1 : (0 : Int) ≤ (q : Int) := by omega
      have i2 : (q : Int) < (n : Int) := by omega
      clear hver hU hnx hj ht
      cases IN
      · have eq0 : (bl : Int) = (q : Int) := by have := hQI false rfl; simpa using this
        obtain rfl : bl = q := by omega
        have e1 : ((bl : Int) == (n : Int)) = false := by simp; omega
        clear hQI hbl hqn hqe eq0
        go_upto_region 7 with (go_at_call 62; refine hbs.mono ?_; clear hbs; rintro e wb ⟨he, hww⟩; rw [hww]; clear hww wb; obtain rfl := he)
        clear rX1
        rename Row _ X _ 46 => rX1
        refine wp_region_held_drew (S := fun w' => Row w' g #[lv, .map (some mw), .map (some mc), .map (some md), .map (some mp)] 96 ∧ Row w' X #[.int .u16 v.1, .int .u32 v.2] 46 ∧ KMap E46 w' mw nw f ∧ w'.cell? ⟨b, bl, none⟩ = some (.int .u32 t)) (by kernel_rfl) ⟨rg2, rX1, wr2, ct⟩ fun hS => ?_
        refine tkH (i := 0) (v := .pointer (some ⟨g, 0, none⟩)) rfl (by kernel_rfl) (fun _ _ _ h => h) (Or.inl ⟨by rfl, fun w _ => by go_simp⟩) hS ?_
        try simp only [Act.put, nz0, nz1, nz2, nz3, nz4, nz5]
        refine tkH (i := 1) (v := .pointer (some ⟨g, 0, none⟩)) rfl (by kernel_rfl) (fun _ _ _ h => h) (Or.inl ⟨by rfl, fun w _ => by go_simp⟩) hS ?_
        try simp only [Act.put, nz0, nz1, nz2, nz3, nz4, nz5]
        refine tkH (i := 2) (v := .pointer (some ⟨g, 1, none⟩)) rfl (by kernel_rfl) (fun _ _ _ h => h) (Or.inl ⟨by rfl, fun w _ => by go_simp⟩) hS ?_
        try simp only [Act.put, nz0, nz1, nz2, nz3, nz4, nz5]
        refine tkH (i := 3) (v := .map (some mw)) rfl (by kernel_rfl) (fun _ _ _ h => h) (Or.inl ⟨by rfl, fun w h => by have c := row_at h.1 1 _ rfl; go_simp⟩) hS ?_
        try simp only [Act.put, nz0, nz1, nz2, nz3, nz4, nz5]
        refine tkH (i := 4) (v := .pointer (some ⟨X, 0, none⟩)) rfl (by kernel_rfl) (fun _ _ _ h => h) (Or.inl ⟨by rfl, fun w _ => by go_simp⟩) hS ?_
        try simp only [Act.put, nz0, nz1, nz2, nz3, nz4, nz5]
        refine tkH (i := 5) (v := .int .u16 v.1) rfl (by kernel_rfl) (fun _ _ _ h => h) (Or.inl ⟨by rfl, fun w h => by have c := row_at h.2.1 0 _ rfl; go_simp⟩) hS ?_
        try simp only [Act.put, nz0, nz1, nz2, nz3, nz4, nz5]
        refine tkH (i := 6) (v := .slice (some ⟨b, 0, none⟩) n cap) rfl (by kernel_rfl) (fun _ _ _ h => h) (Or.inl ⟨by rfl, fun w _ => by go_simp⟩) hS ?_
        try simp only [Act.put, nz0, nz1, nz2, nz3, nz4, nz5]
        refine tkH (i := 7) (v := .int .i64 (bl : Int)) rfl (by kernel_rfl) (fun _ _ _ h => h) (Or.inl ⟨by rfl, fun w _ => by go_simp⟩) hS ?_
        try simp only [Act.put, nz0, nz1, nz2, nz3, nz4, nz5]
        refine tkH (i := 8) (v := .pointer (some ⟨b, bl, none⟩)) rfl (by kernel_rfl) (fun _ _ _ h => h) (Or.inl ⟨by rfl, fun w _ => by go_simp⟩) hS ?_
        try simp only [Act.put, nz0, nz1, nz2, nz3, nz4, nz5]
        refine tkH (i := 9) (v := .int .u32 t) rfl (by kernel_rfl) (fun _ _ _ h => h) (Or.inl ⟨by rfl, fun w h => by have c := h.2.2.2; go_simp⟩) hS ?_
        try simp only [Act.put, nz0, nz1, nz2, nz3, nz4, nz5]
        refine tkH (i := 10) (v := .agg #[.int .u16 v.1, .int .u32 t]) rfl (by kernel_rfl) (fun _ _ _ h => h) (yields_build (by rfl) 46 #[(0, .tmp 35), (1, .tmp 39)] rfl [(0, .int .u16 v.1), (1, .int .u32 t)] (by rfl) _ (built46 _ _)) hS ?_
        try simp only [Act.put, nz0, nz1, nz2, nz3, nz4, nz5]
        refine tkH (i := 11) (v := .int .i64 (j : Int)) rfl (by kernel_rfl) (fun _ _ _ h => h) (yields_lookup (by rfl) 92 (.tmp 33) (.tmp 40) false rfl _ _ _ rfl rfl (fun w h => HLK.out w h.2.2.1)) hS ?_
        try simp only [Act.put, nz0, nz1, nz2, nz3, nz4, nz5]
        refine tkH (i := 12) (v := .int .i64 (j : Int)) rfl (by kernel_rfl) (fun _ _ _ h => h) (Or.inl ⟨by rfl, fun w _ => by go_simp⟩) hS ?_
        try simp only [Act.put, nz0, nz1, nz2, nz3, nz4, nz5]
        refine tkH (i := 13) (v := .bool true) rfl (by kernel_rfl) (fun _ _ _ h => h) (Or.inl ⟨by rfl, fun w _ => by go_simp⟩) hS ?_
        try simp only [Act.put, nz0, nz1, nz2, nz3, nz4, nz5]
        refine wpAnyH_done (by kernel_rfl) ?_ _
        go_wp2
        exact hfin
      · have eq0 : (bl : Int) + 1 = (q : Int) := by have := hQI true rfl; simpa using this
        have ad : IntKind.i64.wrap ((bl : Int) + 1) = (q : Int) := by rw [ADD.out]; exact eq0
        have e1 : ((q : Int) == (n : Int)) = false := by simp; omega
        clear hQI hbl hqn hqe eq0
        go_upto_region 7 with (go_at_call 62; refine hbs.mono ?_; clear hbs; rintro e wb ⟨he, hww⟩; rw [hww]; clear hww wb; obtain rfl := he)
        clear rX1
        rename Row _ X _ 46 => rX1
        refine wp_region_held_drew (S := fun w' => Row w' g #[lv, .map (some mw), .map (some mc), .map (some md), .map (some mp)] 96 ∧ Row w' X #[.int .u16 v.1, .int .u32 v.2] 46 ∧ KMap E46 w' mw nw f ∧ w'.cell? ⟨b, q, none⟩ = some (.int .u32 t)) (by kernel_rfl) ⟨rg2, rX1, wr2, ct⟩ fun hS => ?_
        refine tkH (i := 0) (v := .pointer (some ⟨g, 0, none⟩)) rfl (by kernel_rfl) (fun _ _ _ h => h) (Or.inl ⟨by rfl, fun w _ => by go_simp⟩) hS ?_
        try simp only [Act.put, nz0, nz1, nz2, nz3, nz4, nz5]
        refine tkH (i := 1) (v := .pointer (some ⟨g, 0, none⟩)) rfl (by kernel_rfl) (fun _ _ _ h => h) (Or.inl ⟨by rfl, fun w _ => by go_simp⟩) hS ?_
        try simp only [Act.put, nz0, nz1, nz2, nz3, nz4, nz5]
        refine tkH (i := 2) (v := .pointer (some ⟨g, 1, none⟩)) rfl (by kernel_rfl) (fun _ _ _ h => h) (Or.inl ⟨by rfl, fun w _ => by go_simp⟩) hS ?_
        try simp only [Act.put, nz0, nz1, nz2, nz3, nz4, nz5]
        refine tkH (i := 3) (v := .map (some mw)) rfl (by kernel_rfl) (fun _ _ _ h => h) (Or.inl ⟨by rfl, fun w h => by have c := row_at h.1 1 _ rfl; go_simp⟩) hS ?_
        try simp only [Act.put, nz0, nz1, nz2, nz3, nz4, nz5]
        refine tkH (i := 4) (v := .pointer (some ⟨X, 0, none⟩)) rfl (by kernel_rfl) (fun _ _ _ h => h) (Or.inl ⟨by rfl, fun w _ => by go_simp⟩) hS ?_
        try simp only [Act.put, nz0, nz1, nz2, nz3, nz4, nz5]
        refine tkH (i := 5) (v := .int .u16 v.1) rfl (by kernel_rfl) (fun _ _ _ h => h) (Or.inl ⟨by rfl, fun w h => by have c := row_at h.2.1 0 _ rfl; go_simp⟩) hS ?_
        try simp only [Act.put, nz0, nz1, nz2, nz3, nz4, nz5]
        refine tkH (i := 6) (v := .slice (some ⟨b, 0, none⟩) n cap) rfl (by kernel_rfl) (fun _ _ _ h => h) (Or.inl ⟨by rfl, fun w _ => by go_simp⟩) hS ?_
        try simp only [Act.put, nz0, nz1, nz2, nz3, nz4, nz5]
        refine tkH (i := 7) (v := .int .i64 (q : Int)) rfl (by kernel_rfl) (fun _ _ _ h => h) (Or.inl ⟨by rfl, fun w _ => by go_simp⟩) hS ?_
        try simp only [Act.put, nz0, nz1, nz2, nz3, nz4, nz5]
        refine tkH (i := 8) (v := .pointer (some ⟨b, q, none⟩)) rfl (by kernel_rfl) (fun _ _ _ h => h) (Or.inl ⟨by rfl, fun w _ => by go_simp⟩) hS ?_
        try simp only [Act.put, nz0, nz1, nz2, nz3, nz4, nz5]
        refine tkH (i := 9) (v := .int .u32 t) rfl (by kernel_rfl) (fun _ _ _ h => h) (Or.inl ⟨by rfl, fun w h => by have c := h.2.2.2; go_simp⟩) hS ?_
        try simp only [Act.put, nz0, nz1, nz2, nz3, nz4, nz5]
        refine tkH (i := 10) (v := .agg #[.int .u16 v.1, .int .u32 t]) rfl (by kernel_rfl) (fun _ _ _ h => h) (yields_build (by rfl) 46 #[(0, .tmp 35), (1, .tmp 39)] rfl [(0, .int .u16 v.1), (1, .int .u32 t)] (by rfl) _ (built46 _ _)) hS ?_
        try simp only [Act.put, nz0, nz1, nz2, nz3, nz4, nz5]
        refine tkH (i := 11) (v := .int .i64 (j : Int)) rfl (by kernel_rfl) (fun _ _ _ h => h) (yields_lookup (by rfl) 92 (.tmp 33) (.tmp 40) false rfl _ _ _ rfl rfl (fun w h => HLK.out w h.2.2.1)) hS ?_
        try simp only [Act.put, nz0, nz1, nz2, nz3, nz4, nz5]
        refine tkH (i := 12) (v := .int .i64 (j : Int)) rfl (by kernel_rfl) (fun _ _ _ h => h) (Or.inl ⟨by rfl, fun w _ => by go_simp⟩) hS ?_
        try simp only [Act.put, nz0, nz1, nz2, nz3, nz4, nz5]
        refine tkH (i := 13) (v := .bool true) rfl (by kernel_rfl) (fun _ _ _ h => h) (Or.inl ⟨by rfl, fun w _ => by go_simp⟩) hS ?_
        try simp only [Act.put, nz0, nz1, nz2, nz3, nz4, nz5]
        refine wpAnyH_done (by kernel_rfl) ?_ _
        go_wp2
        exact hfin
end Go.Proofs.Ytdlllnkcjfpajaa
