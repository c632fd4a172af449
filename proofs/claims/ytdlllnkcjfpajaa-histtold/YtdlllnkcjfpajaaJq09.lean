/-
  Proved here: slices.SortStableFunc of fewer than twenty transactions by their starts. Proved here: slices.SortStableFunc of fewer than twenty transactions by their starts.
-/
import Derived.Test.YtdlllnkcjfpajaaJq02
import Derived.Test.YtdlllnkcjfpajaaJq05
import Derived.Deep.Draws
import Derived.Deep.QuietTactic
import Derived.BigQuiet
import Derived.BigRegion
import Derived.CellFam
import Derived.WalkSmall
namespace Go.Proofs.Ytdlllnkcjfpajaa
open Go.ChangeShapes Go.WideShapes Go.ChangeAt Go.RowKit Go.Deep
set_option linter.unusedVariables false
set_option linter.unusedSimpArgs false
set_option maxRecDepth 20000
structure SAt (w : World) (g : Nat) (os : List Hm) : Prop where
  lt : g < w.heap.size
  ats : ∀ k o, os[k]? = some o → w.rangeAt g (k * 5) o.o.cells
  there : ∀ k o, os[k]? = some o → w.there g (k * 5) 5
theorem SAt.off {F : Nat → Prop} {w w' : World} {g : Nat} {os : List Hm} (h : SAt w g os) (ho : Off F w w') (hF : ¬ F g) : SAt w' g os where
  lt := Nat.lt_of_lt_of_le h.lt ho.size
  ats k o hk j v hv := by rw [World.cell?_of_block (ho.block g h.lt hF)]; exact h.ats k o hk j v hv
  there k o hk j hj := by rw [World.cell?_of_block (ho.block g h.lt hF), World.frozen?_of_block (ho.block g h.lt hF)]; exact h.there k o hk j hj
theorem Off.of_setCells (g : Nat) : ∀ (vs : List Value) (o : Nat) (w : World), Off (· = g) w (w.setCells g o vs)
  | [], _, w => Off.refl _ w
  | v :: r, o, w => (Off.of_setCell (F := (· = g)) w ⟨g, o, none⟩ v rfl).trans (Off.of_setCells g r (o + 1) _) fun _ q => Or.inl q
theorem SAt.swap {w : World} {g : Nat} {A B : List Hm} {x y : Hm} (h : SAt w g (A ++ y :: x :: B)) :
    SAt ((w.setCells g ((A.length + 1) * 5) y.o.cells).setCells g (A.length * 5) x.o.cells) g (A ++ x :: y :: B) := by
  have hx : (A ++ y :: x :: B)[A.length + 1]? = some x := by simp
  have hy : (A ++ y :: x :: B)[A.length]? = some y := by simp
  have T1 := h.there _ _ hx
  have T0 := h.there _ _ hy
  have e : ∀ k, k ≠ A.length → k ≠ A.length + 1 → (A ++ x :: y :: B)[k]? = (A ++ y :: x :: B)[k]? := fun k h0 h1 => by
    by_cases q : k < A.length
    · rw [List.getElem?_append_left q, List.getElem?_append_left q]
    · rw [List.getElem?_append_right (by omega), List.getElem?_append_right (by omega)]
      obtain ⟨m, hm⟩ : ∃ m, k - A.length = m + 2 := ⟨k - A.length - 2, by omega⟩
      rw [hm]; rfl
  have lens : ∀ z : Hm, z.o.cells.length = 5 := fun z => rfl
  refine ⟨?_, fun k o hk => ?_, fun k o hk => ?_⟩
  · have := (Off.of_setCells g x.o.cells (A.length * 5) (w.setCells g ((A.length + 1) * 5) y.o.cells)).size
    have := (Off.of_setCells g y.o.cells ((A.length + 1) * 5) w).size
    have := h.lt
    omega
  · by_cases e0 : k = A.length
    · subst e0
      have : (A ++ x :: y :: B)[A.length]? = some x := by simp
      rw [this] at hk; cases hk
      exact World.rangeAt_setCells_same _ _ _ _ (World.there_setCells T0 _ _ _)
    · by_cases e1 : k = A.length + 1
      · subst e1
        have : (A ++ x :: y :: B)[A.length + 1]? = some y := by simp
        rw [this] at hk; cases hk
        exact World.rangeAt_setCells_apart (World.rangeAt_setCells_same _ _ _ _ T1) _ _ _ (by rw [lens, lens]; omega)
      · rw [e k e0 e1] at hk
        exact World.rangeAt_setCells_apart (World.rangeAt_setCells_apart (h.ats k o hk) _ _ _ (by rw [lens, lens]; omega)) _ _ _ (by rw [lens, lens]; omega)
  · have hk' : ∃ o', (A ++ y :: x :: B)[k]? = some o' := by
      have hl := (List.getElem?_eq_some_iff.1 hk).1
      exact ⟨_, List.getElem?_eq_getElem (by simp at hl ⊢; exact hl)⟩
    obtain ⟨o', ho'⟩ := hk'
    exact World.there_setCells (World.there_setCells (h.there k o' ho') _ _ _) _ _ _
theorem off_drewN' {F : Nat → Prop} {a b : World} (h : Off F a b) (n : Nat) : Off F a (b.drewN n) := ⟨h.os, h.tape, h.output, h.size, h.block⟩
def SSorted (w : World) (g : Nat) (xs : List Hm) (e : Ending) (w' : World) : Prop :=
  e = .returned (.tuple #[]) ∧ ∃ ys : List Hm, ys.Perm xs ∧ ys.Pairwise (fun a b => a.p.st ≤ b.p.st) ∧ SAt w' g ys ∧ Off (· = g) w w'
theorem st_put {A B : List Hm} {x : Hm} (h : (A ++ B).Pairwise (fun a b => a.p.st ≤ b.p.st)) (hB : ∀ b ∈ B, x.p.st ≤ b.p.st) (hA : ∀ a ∈ A, a.p.st ≤ x.p.st) : (A ++ x :: B).Pairwise (fun a b => a.p.st ≤ b.p.st) := by
  obtain ⟨h1, h2, h3⟩ := List.pairwise_append.1 h
  refine List.pairwise_append.2 ⟨h1, List.pairwise_cons.2 ⟨hB, h2⟩, fun a ha b hb => ?_⟩
  rcases List.mem_cons.1 hb with rfl | hb
  · exact hA a ha
  · exact h3 a ha b hb
theorem st_last {A : List Hm} {y x : Hm} (h : (A ++ [y]).Pairwise (fun a b => a.p.st ≤ b.p.st)) (hy : y.p.st ≤ x.p.st) : ∀ a ∈ A ++ [y], a.p.st ≤ x.p.st := fun a ha => by
  obtain ⟨_, _, h3⟩ := List.pairwise_append.1 h
  rcases List.mem_append.1 ha with q | q
  · exact Int.le_trans (h3 a q y (by simp)) hy
  · simp at q; subst q; exact hy
set_option maxHeartbeats 4000000 in
theorem sisort_any {w : World} {g cap : Nat} {xs : List Hm} (h : SAt w g xs) (n : Nat) (hn : xs.length = n) (hs : n < 1000000) :
    Calls Try.prog 68 #[.slice (some ⟨g, 0, none⟩) n cap, .int .i64 0, .int .i64 n, .func (.func 41) #[] #[]] w fun e w' => SSorted w g xs e w' := by
  have HN : Hid _ := hn
  clear hn
  have HPP : Hid (∀ w', (∃ ys : List Hm, ys.Perm xs ∧ ys.Pairwise (fun a b => a.p.st ≤ b.p.st) ∧ SAt w' g ys ∧ Off (· = g) w w') → SSorted w g xs (.returned (.tuple #[])) w') := fun w' h => ⟨rfl, h⟩
  suffices hsu : Calls Try.prog 68 #[.slice (some ⟨g, 0, none⟩) n cap, .int .i64 0, .int .i64 n, .func (.func 41) #[] #[]] w fun e w' => e = .returned (.tuple #[]) ∧ SSorted w g xs (.returned (.tuple #[])) w' from hsu.mono (by rintro e w' ⟨rfl, q⟩; exact q)
  generalize SSorted w g xs (.returned (.tuple #[])) = PP at HPP ⊢
  go_enter Try.func68, Try.ntmps68
  go_wp2
  go_loopw [8] (fun vi wr => ∃ (i : Nat) (ys : List Hm), vi = .int .i64 i ∧ 1 ≤ i ∧ i ≤ n + 1 ∧ Hid (ys.Perm xs) ∧ Hid ((ys.take i).Pairwise (fun a b => a.p.st ≤ b.p.st)) ∧ SAt wr g ys ∧ Off (· = g) w wr) (fun vi _ => n + 1 - (intOf vi).toNat)
  case atStart => exact ⟨1, xs, rfl, by omega, by omega, List.Perm.refl _, by
    show List.Pairwise _ _
    cases xs with
    | nil => simp
    | cons a r => simp, h, Off.refl _ _⟩
  case round =>
    clear h
    obtain ⟨i, ys, rfl, hi1, hin, HP, HO, U, ro⟩ := hrel
    have hlen : ys.length = n := by rw [HP.out.length_eq]; exact HN.out
    by_cases hlt : i < n
    · have hlt' : (i : Int) < n := by omega
      have HL : Hid _ := hlen
      clear hlen
      go_wp2
      rename World => wo
      go_loopw [9] (fun vj wr => ∃ (A B C : List Hm) (x : Hm), vj = .int .i64 A.length ∧ Hid (A.length + B.length = i) ∧ Hid ((A ++ x :: (B ++ C)).Perm xs) ∧ Hid ((A ++ B).Pairwise (fun a b => a.p.st ≤ b.p.st)) ∧ Hid (∀ b ∈ B, x.p.st ≤ b.p.st) ∧ SAt wr g (A ++ x :: (B ++ C)) ∧ Off (· = g) w wr) (fun vj _ => (intOf vj).toNat)
      case atStart =>
        have hil : i < ys.length := by rw [HL.out]; exact hlt
        have e : ys = ys.take i ++ ys[i] :: ([] ++ ys.drop (i + 1)) := by
          rw [List.nil_append, ← List.drop_eq_getElem_cons hil, List.take_append_drop]
        have el : (ys.take i).length = i := by rw [List.length_take]; omega
        refine ⟨ys.take i, [], ys.drop (i + 1), ys[i], by rw [el], by show _ = _; rw [el]; rfl, ?_, by show List.Pairwise _ _; rw [List.append_nil]; exact HO.out, fun b hb => (nomatch hb), ?_, ro⟩
        · show List.Perm _ _
          rw [← e]; exact HP.out
        · rw [← e]; exact U
      case round =>
        clear U ro HP HO
        obtain ⟨A, B, C, x, rfl, HAB, HP, HO, HB, U, ro⟩ := hrel
        have HLL : Hid ((A ++ x :: (B ++ C)).length = n) := by show _ = _; rw [HP.out.length_eq]; exact HN.out
        have END : Hid (A = [] ∨ (∃ A' y, A = A' ++ [y] ∧ y.p.st ≤ x.p.st) → ∀ wq, Off (· = g) w wq → SAt wq g (A ++ x :: (B ++ C)) → ∃ (i' : Nat) (ys' : List Hm), Value.int .i64 ((i : Int) + 1) = .int .i64 (i' : Nat) ∧ 1 ≤ i' ∧ i' ≤ n + 1 ∧ Hid (ys'.Perm xs) ∧ Hid ((ys'.take i').Pairwise (fun a b => a.p.st ≤ b.p.st)) ∧ SAt wq g ys' ∧ Off (· = g) w wq) := fun hA wq oq uq => by
          refine ⟨i + 1, _, by go_num, by omega, by omega, HP.out, ?_, uq, oq⟩
          show List.Pairwise _ _
          have e : (A ++ x :: (B ++ C)).take (i + 1) = A ++ x :: B := by
            have e1 : A ++ x :: (B ++ C) = (A ++ x :: B) ++ C := by simp
            have e2 : (A ++ x :: B).length = i + 1 := by have := HAB.out; simp; omega
            rw [e1, ← e2, List.take_left']
            rfl
          rw [e]
          refine st_put HO.out HB.out ?_
          rcases hA with rfl | ⟨A', y, rfl, hy⟩
          · intro a ha; cases ha
          · exact st_last (List.pairwise_append.1 HO.out).1 hy
        rcases List.eq_nil_or_concat A with rfl | ⟨A', y, rfl⟩
        · have hj : decide ((([] : List Hm).length : Int) > 0) = false := rfl
          have hj2 : ((([] : List Hm).length : Nat) : Int) = 0 := rfl
          have HE : Hid (∀ q, _) := fun q => END.out (Or.inl rfl) (wr.drewN q) (off_drewN' ro q) (U.off (F := fun _ => False) (off_drewN' (Off.refl _ _) q) (fun q => q))
          go_wp2
          go_quiet (fail)
          go_wp2
          go_roundw
          case rel => exact HE.out nq
          case measure => first | (simp [intOf]; done) | (simp [intOf]; omega)
        · rw [List.concat_eq_append] at *
          have elen : ((A' ++ [y]).length : Int) = (A'.length : Int) + 1 := by simp
          rw [elen]
          have hA1 : A'.length + 1 < n := by
            have := HLL.out
            simp at this
            omega
          have U2 : SAt wr g (A' ++ y :: x :: (B ++ C)) := by
            have e : A' ++ y :: x :: (B ++ C) = A' ++ [y] ++ x :: (B ++ C) := by simp
            rw [e]; exact U
          have HAX : Hid ((A' ++ y :: x :: (B ++ C))[A'.length + 1]? = some x) := by show _ = _; simp
          have HAY : Hid ((A' ++ y :: x :: (B ++ C))[A'.length]? = some y) := by show _ = _; simp
          have HSWP : Hid (∀ wq, SAt wq g (A' ++ y :: x :: (B ++ C)) → SAt ((wq.setCells g ((A'.length + 1) * 5) y.o.cells).setCells g (A'.length * 5) x.o.cells) g (A' ++ x :: y :: (B ++ C)) ∧ Off (· = g) wq ((wq.setCells g ((A'.length + 1) * 5) y.o.cells).setCells g (A'.length * 5) x.o.cells) ∧ (wq.setCells g ((A'.length + 1) * 5) y.o.cells).there g (A'.length * 5) 5 ∧ wq.there g ((A'.length + 1) * 5) 5 ∧ wq.rangeAt g ((A'.length + 1) * 5) x.o.cells ∧ wq.rangeAt g (A'.length * 5) y.o.cells) := fun wq uq =>
            ⟨uq.swap, (Off.of_setCells g _ _ _).trans (Off.of_setCells g _ _ _) (fun j e => Or.inl e), World.there_setCells (uq.there _ _ HAY.out) _ _ _, uq.there _ _ HAX.out, uq.ats _ _ HAX.out, uq.ats _ _ HAY.out⟩
          have HEQ : Hid (A' ++ [y] ++ x :: (B ++ C) = A' ++ y :: x :: (B ++ C)) := by show _ = _; simp
          clear U elen
          obtain ⟨a, HA⟩ : ∃ a, Hid (A'.length = a) := ⟨_, rfl⟩
          rw [HA.out] at hA1 HAX HAY HSWP ⊢
          have i1 : (0 : Int) ≤ (a : Int) + 1 := by omega
          have i2 : (a : Int) + 1 < (n : Int) := by omega
          have i3 : (a : Int) < (n : Int) := by omega
          have i4 : (a : Int) + 1 > 0 := by omega
          have i5 : IntKind.i64.wrap ((a : Int) + 1 - 1) = (a : Int) := by rw [IntKind.wrap_i64]; omega
          have i6 : (0 : Int) ≤ (a : Int) := by omega
          have i7 : IntKind.i64.wrap (a : Int) = (a : Int) := by rw [IntKind.wrap_i64]; omega
          go_upto_region 4 with fail
          refine wp_region_held_drew (S := fun w' => SAt w' g (A' ++ y :: x :: (B ++ C))) (by kernel_rfl) (U2.off (F := fun _ => False) (Off.refl _ _).drew (fun q => q)) fun hS => ?_
          refine tkH (i := 0) (v := .int .i64 ((a : Int) + 1)) rfl (by kernel_rfl) (fun _ _ _ h => h) (Or.inl ⟨by rfl, fun w _ => by go_simp⟩) hS ?_
          try simp only [Act.put, nz0, nz1, nz2, nz3, nz4, nz5]
          refine tkH (i := 1) (v := .int .i64 0) rfl (by kernel_rfl) (fun _ _ _ h => h) (Or.inl ⟨by rfl, fun w _ => by go_simp⟩) hS ?_
          try simp only [Act.put, nz0, nz1, nz2, nz3, nz4, nz5]
          refine tkH (i := 2) (v := .bool true) rfl (by kernel_rfl) (fun _ _ _ h => h) (Or.inl ⟨by rfl, fun w _ => by go_simp⟩) hS ?_
          try simp only [Act.put, nz0, nz1, nz2, nz3, nz4, nz5]
          refine tkH (i := 3) (v := .bool true) rfl (by kernel_rfl) (fun _ _ _ h => h) (Or.inl ⟨by rfl, fun w _ => by go_simp⟩) hS ?_
          try simp only [Act.put, nz0, nz1, nz2, nz3, nz4, nz5]
          refine tkH (i := 4) (v := .func (.func 41) #[] #[]) rfl (by kernel_rfl) (fun _ _ _ h => h) (Or.inl ⟨by rfl, fun w _ => by go_simp⟩) hS ?_
          try simp only [Act.put, nz0, nz1, nz2, nz3, nz4, nz5]
          refine tkH (i := 5) (v := .slice (some ⟨g, 0, none⟩) n cap) rfl (by kernel_rfl) (fun _ _ _ h => h) (Or.inl ⟨by rfl, fun w _ => by go_simp⟩) hS ?_
          try simp only [Act.put, nz0, nz1, nz2, nz3, nz4, nz5]
          refine tkH (i := 6) (v := .int .i64 ((a : Int) + 1)) rfl (by kernel_rfl) (fun _ _ _ h => h) (Or.inl ⟨by rfl, fun w _ => by go_simp⟩) hS ?_
          try simp only [Act.put, nz0, nz1, nz2, nz3, nz4, nz5]
          refine tkH (i := 7) (v := .pointer (some ⟨g, (a + 1) * 5, none⟩)) rfl (by kernel_rfl) (fun _ _ _ h => h) (Or.inl ⟨by rfl, fun w _ => by go_simp⟩) hS ?_
          try simp only [Act.put, nz0, nz1, nz2, nz3, nz4, nz5]
          refine tkH (i := 8) (v := .agg x.o.cells.toArray) rfl (by kernel_rfl) (fun _ _ _ h => h) (yieldsIf_load_mid (by rfl) 39 (.tmp 25) rfl g ((a + 1) * 5) rfl x.o.cells _ (fun w h => h.ats _ _ (HAX.out)) Try.underlying39 rfl Pa.size39) hS ?_
          try simp only [Act.put, nz0, nz1, nz2, nz3, nz4, nz5]
          refine tkH (i := 9) (v := .slice (some ⟨g, 0, none⟩) n cap) rfl (by kernel_rfl) (fun _ _ _ h => h) (Or.inl ⟨by rfl, fun w _ => by go_simp⟩) hS ?_
          try simp only [Act.put, nz0, nz1, nz2, nz3, nz4, nz5]
          refine tkH (i := 10) (v := .int .i64 ((a : Int) + 1)) rfl (by kernel_rfl) (fun _ _ _ h => h) (Or.inl ⟨by rfl, fun w _ => by go_simp⟩) hS ?_
          try simp only [Act.put, nz0, nz1, nz2, nz3, nz4, nz5]
          refine tkH (i := 11) (v := .int .i64 (a : Int)) rfl (by kernel_rfl) (fun _ _ _ h => h) (Or.inl ⟨by rfl, fun w _ => by go_simp⟩) hS ?_
          try simp only [Act.put, nz0, nz1, nz2, nz3, nz4, nz5]
          refine tkH (i := 12) (v := .pointer (some ⟨g, a * 5, none⟩)) rfl (by kernel_rfl) (fun _ _ _ h => h) (Or.inl ⟨by rfl, fun w _ => by go_simp⟩) hS ?_
          try simp only [Act.put, nz0, nz1, nz2, nz3, nz4, nz5]
          refine tkH (i := 13) (v := .agg y.o.cells.toArray) rfl (by kernel_rfl) (fun _ _ _ h => h) (yieldsIf_load_mid (by rfl) 39 (.tmp 30) rfl g (a * 5) rfl y.o.cells _ (fun w h => h.ats _ _ (HAY.out)) Try.underlying39 rfl Pa.size39) hS ?_
          try simp only [Act.put, nz0, nz1, nz2, nz3, nz4, nz5]
          refine wpAnyH_ready (rs := [14]) (by kernel_rfl) (by simp) ?_
          refine AllReadyH.cons rfl (fun K hK => ?_) AllReadyH.nil
          go_simp
          have hcall := order_any x.o y.o wr.drew
          obtain ⟨cc, HCC⟩ : ∃ cc, Hid (cmpI x.o.start y.o.start = cc) := ⟨_, rfl⟩
          rw [HCC.out] at hcall
          go_at_call 41
          refine Calls.mono hcall ?_
          clear hcall
          rintro e wb ⟨he, hb2⟩
          obtain rfl := he
          have rb : Off (· = g) w wb := ro.drew.trans (Off.of_below (F := fun _ => False) hb2) (fun j q => q.elim)
          have Ub : SAt wb g (A' ++ y :: x :: (B ++ C)) := U2.off (F := fun _ => False) ((Off.refl _ _).drew.trans (Off.of_below (F := fun _ => False) hb2) (fun j q => q.elim)) (fun q => q)
          refine hK.out _ _ Ub fun hS => ?_
          try simp only [Act.put, nz0, nz1, nz2, nz3, nz4, nz5]
          by_cases hxy : x.p.st < y.p.st
          · have hcc : cc < 0 := by rw [← HCC.out]; exact cmpI_neg.2 hxy
            refine tkH (i := 15) (v := .bool true) rfl (by kernel_rfl) (fun _ _ _ h => h) (Or.inl ⟨by rfl, fun w _ => by go_simp⟩) hS ?_
            try simp only [Act.put, nz0, nz1, nz2, nz3, nz4, nz5]
            refine tkH (i := 16) (v := .bool true) rfl (by kernel_rfl) (fun _ _ _ h => h) (Or.inl ⟨by rfl, fun w _ => by go_simp⟩) hS ?_
            try simp only [Act.put, nz0, nz1, nz2, nz3, nz4, nz5]
            refine wpAnyH_done (by kernel_rfl) ?_ _
            clear END hS
            go_upto_region 6 with fail
            obtain ⟨s1, s2, s3, s4, s5, s6⟩ := HSWP.out wb.drew (Ub.off (F := fun _ => False) (Off.refl _ _).drew (fun q => q))
            have HSW : Hid (SAt _ g _ ∧ Off (· = g) w _) := ⟨s1, rb.drew.trans s2 (fun j e => Or.inl e)⟩
            have HT1 : Hid _ := s4
            have HT2 : Hid _ := s3
            have HR1 : Hid _ := s5
            have HR0 : Hid _ := s6
            clear s1 s2 s3 s4 s5 s6
            refine wp_region_held_drew (S := fun w' => True) (by kernel_rfl) trivial fun hS => ?_
            refine tkH (i := 0) (v := .slice (some ⟨g, 0, none⟩) n cap) rfl (by kernel_rfl) (fun _ _ _ h => h) (Or.inl ⟨by rfl, fun w _ => by go_simp⟩) hS ?_
            try simp only [Act.put, nz0, nz1, nz2, nz3, nz4, nz5]
            refine tkH (i := 1) (v := .int .i64 ((a : Int) + 1)) rfl (by kernel_rfl) (fun _ _ _ h => h) (Or.inl ⟨by rfl, fun w _ => by go_simp⟩) hS ?_
            try simp only [Act.put, nz0, nz1, nz2, nz3, nz4, nz5]
            refine tkH (i := 2) (v := .slice (some ⟨g, 0, none⟩) n cap) rfl (by kernel_rfl) (fun _ _ _ h => h) (Or.inl ⟨by rfl, fun w _ => by go_simp⟩) hS ?_
            try simp only [Act.put, nz0, nz1, nz2, nz3, nz4, nz5]
            refine tkH (i := 3) (v := .int .i64 ((a : Int) + 1)) rfl (by kernel_rfl) (fun _ _ _ h => h) (Or.inl ⟨by rfl, fun w _ => by go_simp⟩) hS ?_
            try simp only [Act.put, nz0, nz1, nz2, nz3, nz4, nz5]
            refine tkH (i := 4) (v := .int .i64 (a : Int)) rfl (by kernel_rfl) (fun _ _ _ h => h) (Or.inl ⟨by rfl, fun w _ => by go_simp⟩) hS ?_
            try simp only [Act.put, nz0, nz1, nz2, nz3, nz4, nz5]
            refine tkH (i := 5) (v := .slice (some ⟨g, 0, none⟩) n cap) rfl (by kernel_rfl) (fun _ _ _ h => h) (Or.inl ⟨by rfl, fun w _ => by go_simp⟩) hS ?_
            try simp only [Act.put, nz0, nz1, nz2, nz3, nz4, nz5]
            refine tkH (i := 6) (v := .int .i64 ((a : Int) + 1)) rfl (by kernel_rfl) (fun _ _ _ h => h) (Or.inl ⟨by rfl, fun w _ => by go_simp⟩) hS ?_
            try simp only [Act.put, nz0, nz1, nz2, nz3, nz4, nz5]
            refine tkH (i := 7) (v := .int .i64 (a : Int)) rfl (by kernel_rfl) (fun _ _ _ h => h) (Or.inl ⟨by rfl, fun w _ => by go_simp⟩) hS ?_
            try simp only [Act.put, nz0, nz1, nz2, nz3, nz4, nz5]
            refine tkH (i := 8) (v := .pointer (some ⟨g, a * 5, none⟩)) rfl (by kernel_rfl) (fun _ _ _ h => h) (Or.inl ⟨by rfl, fun w _ => by go_simp⟩) hS ?_
            try simp only [Act.put, nz0, nz1, nz2, nz3, nz4, nz5]
            refine tkH (i := 10) (v := .slice (some ⟨g, 0, none⟩) n cap) rfl (by kernel_rfl) (fun _ _ _ h => h) (Or.inl ⟨by rfl, fun w _ => by go_simp⟩) hS ?_
            try simp only [Act.put, nz0, nz1, nz2, nz3, nz4, nz5]
            refine tkH (i := 11) (v := .int .i64 ((a : Int) + 1)) rfl (by kernel_rfl) (fun _ _ _ h => h) (Or.inl ⟨by rfl, fun w _ => by go_simp⟩) hS ?_
            try simp only [Act.put, nz0, nz1, nz2, nz3, nz4, nz5]
            refine tkH (i := 12) (v := .pointer (some ⟨g, (a + 1) * 5, none⟩)) rfl (by kernel_rfl) (fun _ _ _ h => h) (Or.inl ⟨by rfl, fun w _ => by go_simp⟩) hS ?_
            try simp only [Act.put, nz0, nz1, nz2, nz3, nz4, nz5]
            refine wpAnyH_ready (rs := [9, 13]) (by kernel_rfl) (by simp) ?_
            exact (AllReadyH.cons rfl (fun K hK => by
              refine step_of rfl (wp_load_mid 39 (.tmp 45) rfl g (a * 5) rfl y.o.cells _ HR0.out Try.underlying39 rfl Pa.size39 (hK.out _ _ trivial fun hS => ?_))
              try simp only [Act.put, nz0, nz1, nz2, nz3, nz4, nz5]
              refine wpAnyH_ready (rs := [13]) (by kernel_rfl) (by simp) ?_
              refine AllReadyH.cons rfl (fun K hK => step_of rfl (wp_load_mid 39 (.tmp 49) rfl g ((a + 1) * 5) rfl x.o.cells _ HR1.out Try.underlying39 rfl Pa.size39 (hK.out _ _ trivial fun hS => ?_))) AllReadyH.nil
              try simp only [Act.put, nz0, nz1, nz2, nz3, nz4, nz5]
              refine tkH (i := 14) (v := .pointer (some ⟨g, (a + 1) * 5, none⟩)) rfl (by kernel_rfl) (fun _ _ _ h => h) (Or.inl ⟨by rfl, fun w _ => by go_simp⟩) hS ?_
              try simp only [Act.put, nz0, nz1, nz2, nz3, nz4, nz5]
              refine wpAnyH_ready (rs := [15]) (by kernel_rfl) (by simp) ?_
              refine AllReadyH.cons rfl (fun K hK => step_of rfl (wp_store_mid 39 (.tmp 51) (.tmp 46) rfl g ((a + 1) * 5) y.o.cells.toArray rfl rfl HT1.out Pa.size39 y.o.arr_one (hK.out _ _ trivial fun hS => ?_))) AllReadyH.nil
              try simp only [Act.put, nz0, nz1, nz2, nz3, nz4, nz5]
              refine tkH (i := 16) (v := .pointer (some ⟨g, a * 5, none⟩)) rfl (by kernel_rfl) (fun _ _ _ h => h) (Or.inl ⟨by rfl, fun w _ => by go_simp⟩) hS ?_
              try simp only [Act.put, nz0, nz1, nz2, nz3, nz4, nz5]
              refine wpAnyH_ready (rs := [17]) (by kernel_rfl) (by simp) ?_
              refine AllReadyH.cons rfl (fun K hK => step_of rfl (wp_store_mid 39 (.tmp 52) (.tmp 50) rfl g (a * 5) x.o.cells.toArray rfl rfl HT2.out Pa.size39 x.o.arr_one (hK.out _ _ trivial fun hS => ?_))) AllReadyH.nil
              try simp only [Act.put, nz0, nz1, nz2, nz3, nz4, nz5]
              refine wpAnyH_done (by kernel_rfl) ?_ _
              go_wp2
              go_roundw
              case rel =>
                refine ⟨A', y :: B, C, x, by rw [HA.out], ?_, ?_, ?_, ?_, HSW.out.1, HSW.out.2⟩
                · have := HAB.out
                  show _ = _
                  simp at this ⊢
                  omega
                · show List.Perm _ _
                  refine List.Perm.trans ?_ HP.out
                  have e : A' ++ [y] ++ x :: (B ++ C) = A' ++ y :: x :: (B ++ C) := by simp
                  rw [e]
                  exact List.Perm.append_left _ (List.Perm.swap _ _ _)
                · show List.Pairwise _ _
                  have e : A' ++ y :: B = A' ++ [y] ++ B := by simp
                  rw [e]; exact HO.out
                · intro b hb
                  rcases List.mem_cons.1 hb with rfl | hb
                  · exact Int.le_of_lt hxy
                  · exact HB.out b hb
              case measure => first | (simp [intOf]; done) | (simp [intOf]; omega)
            ) (AllReadyH.cons rfl (fun K hK => by
              refine step_of rfl (wp_load_mid 39 (.tmp 49) rfl g ((a + 1) * 5) rfl x.o.cells _ HR1.out Try.underlying39 rfl Pa.size39 (hK.out _ _ trivial fun hS => ?_))
              try simp only [Act.put, nz0, nz1, nz2, nz3, nz4, nz5]
              refine wpAnyH_ready (rs := [9]) (by kernel_rfl) (by simp) ?_
              refine AllReadyH.cons rfl (fun K hK => step_of rfl (wp_load_mid 39 (.tmp 45) rfl g (a * 5) rfl y.o.cells _ HR0.out Try.underlying39 rfl Pa.size39 (hK.out _ _ trivial fun hS => ?_))) AllReadyH.nil
              try simp only [Act.put, nz0, nz1, nz2, nz3, nz4, nz5]
              refine tkH (i := 14) (v := .pointer (some ⟨g, (a + 1) * 5, none⟩)) rfl (by kernel_rfl) (fun _ _ _ h => h) (Or.inl ⟨by rfl, fun w _ => by go_simp⟩) hS ?_
              try simp only [Act.put, nz0, nz1, nz2, nz3, nz4, nz5]
              refine wpAnyH_ready (rs := [15]) (by kernel_rfl) (by simp) ?_
              refine AllReadyH.cons rfl (fun K hK => step_of rfl (wp_store_mid 39 (.tmp 51) (.tmp 46) rfl g ((a + 1) * 5) y.o.cells.toArray rfl rfl HT1.out Pa.size39 y.o.arr_one (hK.out _ _ trivial fun hS => ?_))) AllReadyH.nil
              try simp only [Act.put, nz0, nz1, nz2, nz3, nz4, nz5]
              refine tkH (i := 16) (v := .pointer (some ⟨g, a * 5, none⟩)) rfl (by kernel_rfl) (fun _ _ _ h => h) (Or.inl ⟨by rfl, fun w _ => by go_simp⟩) hS ?_
              try simp only [Act.put, nz0, nz1, nz2, nz3, nz4, nz5]
              refine wpAnyH_ready (rs := [17]) (by kernel_rfl) (by simp) ?_
              refine AllReadyH.cons rfl (fun K hK => step_of rfl (wp_store_mid 39 (.tmp 52) (.tmp 50) rfl g (a * 5) x.o.cells.toArray rfl rfl HT2.out Pa.size39 x.o.arr_one (hK.out _ _ trivial fun hS => ?_))) AllReadyH.nil
              try simp only [Act.put, nz0, nz1, nz2, nz3, nz4, nz5]
              refine wpAnyH_done (by kernel_rfl) ?_ _
              go_wp2
              go_roundw
              case rel =>
                refine ⟨A', y :: B, C, x, by rw [HA.out], ?_, ?_, ?_, ?_, HSW.out.1, HSW.out.2⟩
                · have := HAB.out
                  show _ = _
                  simp at this ⊢
                  omega
                · show List.Perm _ _
                  refine List.Perm.trans ?_ HP.out
                  have e : A' ++ [y] ++ x :: (B ++ C) = A' ++ y :: x :: (B ++ C) := by simp
                  rw [e]
                  exact List.Perm.append_left _ (List.Perm.swap _ _ _)
                · show List.Pairwise _ _
                  have e : A' ++ y :: B = A' ++ [y] ++ B := by simp
                  rw [e]; exact HO.out
                · intro b hb
                  rcases List.mem_cons.1 hb with rfl | hb
                  · exact Int.le_of_lt hxy
                  · exact HB.out b hb
              case measure => first | (simp [intOf]; done) | (simp [intOf]; omega)
            ) AllReadyH.nil))
          · have hcc : ¬ cc < 0 := fun q => hxy (cmpI_neg.1 (by rw [show cmpI x.p.st y.p.st = cc from HCC.out]; exact q))
            have HE : Hid _ := END.out (Or.inr ⟨A', y, rfl, by omega⟩) wb rb (by rw [HEQ.out]; exact Ub)
            refine tkH (i := 15) (v := .bool false) rfl (by kernel_rfl) (fun _ _ _ h => h) (Or.inl ⟨by rfl, fun w _ => by go_simp⟩) hS ?_
            try simp only [Act.put, nz0, nz1, nz2, nz3, nz4, nz5]
            refine tkH (i := 16) (v := .bool false) rfl (by kernel_rfl) (fun _ _ _ h => h) (Or.inl ⟨by rfl, fun w _ => by go_simp⟩) hS ?_
            try simp only [Act.put, nz0, nz1, nz2, nz3, nz4, nz5]
            refine wpAnyH_done (by kernel_rfl) ?_ _
            clear END hS
            go_wp2
            go_roundw
            case rel => exact HE.out
            case measure => first | (simp [intOf]; done) | (simp [intOf]; omega)
    · have hlt' : ¬ (i : Int) < n := by omega
      have hfin := HPP.out wr ⟨ys, HP.out, (by
        have := HO.out
        rw [List.take_of_length_le (by omega)] at this
        exact this), U, ro⟩
      go_wp2
      go_end0
      exact ⟨rfl, hfin⟩
end Go.Proofs.Ytdlllnkcjfpajaa
namespace Go.Proofs.Ytdlllnkcjfpajaa
open Go.ChangeShapes Go.WideShapes Go.ChangeAt Go.RowKit
set_option linter.unusedVariables false
set_option linter.unusedSimpArgs false
set_option maxRecDepth 20000
theorem sstable_any {w : World} {g cap : Nat} {xs : List Hm} (h : SAt w g xs) (n : Nat) (hn : xs.length = n) (hs : n < 20) :
    Calls Try.prog 40 #[.slice (some ⟨g, 0, none⟩) n cap, .func (.func 41) #[] #[]] w fun e w' => SSorted w g xs e w' := by
  have hi := sisort_any (cap := cap) h n hn (by omega)
  obtain ⟨PP, HPP⟩ : ∃ PP : World → Prop, Hid (PP = fun w' => SSorted w g xs (.returned (.tuple #[])) w') := ⟨_, rfl⟩
  have HQ : Hid (∀ e w', SSorted w g xs e w' → e = .returned (.tuple #[]) ∧ PP w') := fun e w' q => by rw [HPP.out]; have q' := q; obtain ⟨rfl, _⟩ := q'; exact ⟨rfl, q⟩
  suffices hsu : Calls Try.prog 40 #[.slice (some ⟨g, 0, none⟩) n cap, .func (.func 41) #[] #[]] w fun e w' => e = .returned (.tuple #[]) ∧ PP w' from hsu.mono (by rintro e w' ⟨rfl, q⟩; rw [HPP.out] at q; exact q)
  have h2 : Calls Try.prog 59 #[.slice (some ⟨g, 0, none⟩) n cap, .int .i64 n, .func (.func 41) #[] #[]] w fun e w' => e = .returned (.tuple #[]) ∧ PP w' := by
    clear HPP h
    have n20 : ¬ (20 : Int) ≤ (n : Int) := by omega
    have n21 : ¬ (20 : Int) < (n : Int) := by omega
    go_enter Try.func59, Try.ntmps59
    go_upto_region 2 with fail
    go_loopw [7, 8] (fun a b wr => a = .int .i64 0 ∧ b = .int .i64 20 ∧ wr = w) (fun _ _ _ => 0)
    case atStart => exact ⟨rfl, rfl, rfl⟩
    case round =>
      obtain ⟨rfl, rfl, hww⟩ := hrel
      subst hww
      go_upto_region 7 with (go_at_call 68; refine hi.mono ?_; clear hi; intro e w2 hq; obtain ⟨he, hq2⟩ := HQ.out _ _ hq; obtain rfl := he; clear hq; have HQ2 := show Hid _ from hq2; clear hq2)
      go_loopw [6] (fun a wr => a = .int .i64 20 ∧ wr = w2) (fun _ _ => 0)
      case atStart => exact ⟨rfl, rfl⟩
      case round =>
        obtain ⟨rfl, hww⟩ := hrel
        subst hww
        go_wp2
        go_end0
        exact ⟨rfl, HQ2.out⟩
  clear HPP h hi
  go_enter Try.func40, Try.ntmps40
  go_wp2_with (go_at_call 59; refine h2.mono ?_; clear h2; rintro e w2 ⟨he, hq2⟩; obtain rfl := he)
  go_end0
  exact ⟨rfl, hq2⟩
end Go.Proofs.Ytdlllnkcjfpajaa
