/-
  Proved here: which page the document's Find finds.
-/
import Derived.Test.YtddhjkgefninbaaRaq
namespace Go.Proofs.Ytddhjkgefninbaa
open Go.ChangeShapes Go.WideShapes Go.ChangeAt Go.RowKit
set_option linter.unusedVariables false
set_option linter.unusedSimpArgs false
set_option maxRecDepth 20000

def QFound (w : World) (g a : Nat) (ps : List Pge) (l : Nat) (n : Int) (e : Ending) (w' : World) : Prop :=
  e = .returned (.tuple #[.int .i64 ((findP ps l n).getD 0 : Nat), .bool (findP ps l n).isSome]) ∧ QAt w' g a ps ((findP ps l n).getD l) ∧ Off (two g a) w w'
set_option maxHeartbeats 2000000 in
theorem qfind_any {w : World} {g a : Nat} {ps : List Pge} {l : Nat} (c : QAt w g a ps l) (hF : ∀ p ∈ ps, ∀ x ∈ p.os, x.Fits) (m : Int) :
    Calls Try.prog 10 #[.pointer (some ⟨g, 0, none⟩), .int .i64 m] w fun e w' => QFound w g a ps l m e w' := by
  obtain ⟨p, hp⟩ : ∃ p, ps[l]? = some p := ⟨ps[l]'c.lt, List.getElem?_eq_getElem c.lt⟩
  have hmp := List.mem_of_getElem? hp
  have hl := c.lt
  have hsm := c.small
  have HC : Hid _ := c
  have HFT : Hid _ := hF
  have hO := (c.olds p hmp).olds
  go_enter Try.func10, Try.ntmps10
  go_upto_region 1 with fail
  refine wp_region_held_drew (S := fun w' => QAt w' g a ps l ∧ Below w.heap.size w w') (by kernel_rfl) ⟨c.below (Below.refl _ _).drew, (Below.refl _ _).drew⟩ fun hS => ?_
  refine wpAnyH_take (i := 0) (v := .pointer (some ⟨g, 0, none⟩)) rfl (by kernel_rfl) (by kernel_rfl) (by kernel_rfl) (fun _ _ _ h => h) (Or.inl ⟨by rfl, fun w _ => by go_simp⟩) hS ?_
  try simp only [Act.put, List.getElem_toArray, List.getElem_cons_zero, List.getElem_cons_succ, List.setIfInBounds_toArray, List.set_cons_zero, List.set_cons_succ]
  refine wpAnyH_take (i := 1) (v := .pointer (some ⟨g, 0, none⟩)) rfl (by kernel_rfl) (by kernel_rfl) (by kernel_rfl) (fun _ _ _ h => h) (Or.inl ⟨by rfl, fun w _ => by go_simp⟩) hS ?_
  try simp only [Act.put, List.getElem_toArray, List.getElem_cons_zero, List.getElem_cons_succ, List.setIfInBounds_toArray, List.set_cons_zero, List.set_cons_succ]
  refine wpAnyH_take (i := 2) (v := .pointer (some ⟨g, 0, none⟩)) rfl (by kernel_rfl) (by kernel_rfl) (by kernel_rfl) (fun _ _ _ h => h) (Or.inl ⟨by rfl, fun w _ => by go_simp⟩) hS ?_
  try simp only [Act.put, List.getElem_toArray, List.getElem_cons_zero, List.getElem_cons_succ, List.setIfInBounds_toArray, List.set_cons_zero, List.set_cons_succ]
  refine wpAnyH_take (i := 3) (v := .slice (some ⟨a, 0, none⟩) ps.length ps.length) rfl (by kernel_rfl) (by kernel_rfl) (by kernel_rfl) (fun _ _ _ h => h) (Or.inl ⟨by rfl, fun w h => by have c := row_at h.1.room 0 _ rfl; go_simp⟩) hS ?_
  try simp only [Act.put, List.getElem_toArray, List.getElem_cons_zero, List.getElem_cons_succ, List.setIfInBounds_toArray, List.set_cons_zero, List.set_cons_succ]
  refine wpAnyH_take (i := 4) (v := .pointer (some ⟨g, 0, none⟩)) rfl (by kernel_rfl) (by kernel_rfl) (by kernel_rfl) (fun _ _ _ h => h) (Or.inl ⟨by rfl, fun w _ => by go_simp⟩) hS ?_
  try simp only [Act.put, List.getElem_toArray, List.getElem_cons_zero, List.getElem_cons_succ, List.setIfInBounds_toArray, List.set_cons_zero, List.set_cons_succ]
  refine wpAnyH_take (i := 5) (v := .pointer (some ⟨g, 0, none⟩)) rfl (by kernel_rfl) (by kernel_rfl) (by kernel_rfl) (fun _ _ _ h => h) (Or.inl ⟨by rfl, fun w _ => by go_simp⟩) hS ?_
  try simp only [Act.put, List.getElem_toArray, List.getElem_cons_zero, List.getElem_cons_succ, List.setIfInBounds_toArray, List.set_cons_zero, List.set_cons_succ]
  refine wpAnyH_take (i := 6) (v := .pointer (some ⟨g, 1, none⟩)) rfl (by kernel_rfl) (by kernel_rfl) (by kernel_rfl) (fun _ _ _ h => h) (Or.inl ⟨by rfl, fun w _ => by go_simp⟩) hS ?_
  try simp only [Act.put, List.getElem_toArray, List.getElem_cons_zero, List.getElem_cons_succ, List.setIfInBounds_toArray, List.set_cons_zero, List.set_cons_succ]
  refine wpAnyH_take (i := 7) (v := .int .i64 l) rfl (by kernel_rfl) (by kernel_rfl) (by kernel_rfl) (fun _ _ _ h => h) (Or.inl ⟨by rfl, fun w h => by have c := row_at h.1.room 1 _ rfl; go_simp⟩) hS ?_
  try simp only [Act.put, List.getElem_toArray, List.getElem_cons_zero, List.getElem_cons_succ, List.setIfInBounds_toArray, List.set_cons_zero, List.set_cons_succ]
  refine wpAnyH_take (i := 8) (v := .pointer (some ⟨a, l * 2, none⟩)) rfl (by kernel_rfl) (by kernel_rfl) (by kernel_rfl) (fun _ _ _ h => h) (Or.inl ⟨by rfl, fun w _ => by go_simp⟩) hS ?_
  try simp only [Act.put, List.getElem_toArray, List.getElem_cons_zero, List.getElem_cons_succ, List.setIfInBounds_toArray, List.set_cons_zero, List.set_cons_succ]
  refine wpAnyH_take (i := 9) (v := .agg #[.int .u64 p.lsn, p.v]) rfl (by kernel_rfl) (by kernel_rfl) (by kernel_rfl) (fun _ _ _ h => h) (yields_any (by rfl) 33 (.tmp 15) rfl ⟨a, l * 2, none⟩ rfl [.int .u64 p.lsn, p.v] (fun w h => h.1.at hp) Try.underlying33 rfl size33) hS ?_
  try simp only [Act.put, List.getElem_toArray, List.getElem_cons_zero, List.getElem_cons_succ, List.setIfInBounds_toArray, List.set_cons_zero, List.set_cons_succ]
  refine wpAnyH_take (i := 10) (v := .int .i64 m) rfl (by kernel_rfl) (by kernel_rfl) (by kernel_rfl) (fun _ _ _ h => h) (Or.inl ⟨by rfl, fun w _ => by go_simp⟩) hS ?_
  try simp only [Act.put, List.getElem_toArray, List.getElem_cons_zero, List.getElem_cons_succ, List.setIfInBounds_toArray, List.set_cons_zero, List.set_cons_succ]
  refine wpAnyH_ready (rs := [11]) (by kernel_rfl) (by simp) ?_
  refine AllReadyH.cons rfl (fun K hK => ?_) AllReadyH.nil
  go_simp
  go_at_call 19
  refine (rfits_any p.lsn _ p.os m _ (hO.keep hS.2) (HFT.out p hmp)).mono ?_
  rintro e wc ⟨rfl, hcb⟩
  refine hK.out _ _ ⟨hS.1.below hcb, hS.2.trans (hcb.mono hS.2.size)⟩ fun hS => ?_
  try simp only [Act.put, List.getElem_toArray, List.getElem_cons_zero, List.getElem_cons_succ, List.setIfInBounds_toArray, List.set_cons_zero, List.set_cons_succ]
  refine wpAnyH_done (by kernel_rfl) ?_ _
  have c1 := hS.1
  have bw := hS.2
  clear hcb hS
  cases hf : fits p.os m
  · obtain ⟨n, HN⟩ : ∃ n, Hid (ps.length = n) := ⟨_, rfl⟩
    rw [HN.out] at hl hsm
    have HF : Hid (fits p.os m = false) := hf
    clear hf c c1 hF
    go_wp2
    go_loopw [6] (fun d wr => ∃ (k : Nat), d = .int .i64 k ∧ k ≤ n ∧ Below w.heap.size w wr ∧ ∀ j r, j < k → ps[j]? = some r → fits r.os m = false) (fun d _ => n - (intOf d).toNat)
    case atStart => exact ⟨0, rfl, by omega, bw, fun j r hj => absurd hj (by omega)⟩
    case round =>
      obtain ⟨k, rfl, hk, rb, hno⟩ := hrel
      have c2 := HC.out.below rb
      have c0 := row_at c2.room 0 _ rfl
      rw [HN.out] at c0
      by_cases hkn : k < n
      · have hkn' : (k : Int) < (n : Int) := by omega
        have hkl : k < ps.length := by rw [HN.out]; exact hkn
        obtain ⟨q, hq⟩ : ∃ q, ps[k]? = some q := ⟨ps[k], List.getElem?_eq_getElem hkl⟩
        have hmq := List.mem_of_getElem? hq
        have hcell := c2.at hq
        have ho := (c2.olds q hmq).olds
        have hfits := rfits_any q.lsn q.v q.os m wr ho (HFT.out q hmq)
        obtain ⟨lsn, v, os⟩ := q
        simp only at hcell hfits
        have HNO : Hid _ := hno
        clear hno ho
        have tl : Hid (1 = 1) := rfl
        obtain ⟨fb, HFB⟩ : ∃ fb, Hid (fits os m = fb) := ⟨_, rfl⟩
        rw [HFB.out] at hfits
        cases fb
        · go_wp2_with (first
            | (have hh := tl; clear hh tl; refine wpList_load_any rfl 33 (.tmp 37) rfl ⟨a, k * 2, none⟩ rfl [.int .u64 lsn, v] _ hcell Try.underlying33 rfl size33 ?_)
            | (go_at_call 19; refine hfits.mono ?_; clear hfits; rintro e wx ⟨rfl, hxb⟩; have b3 := rb.trans (hxb.mono rb.size)))
          go_roundw
          case rel => exact ⟨k + 1, by go_num, by omega, b3, fun j r hj hr => by
            by_cases z : j = k
            · subst z; rw [hq] at hr; simp at hr; subst hr; exact HFB.out
            · exact HNO.out j r (by omega) hr⟩
          case measure => simp [intOf]; omega
        · go_wp2_with (first
            | (have hh := tl; clear hh tl; refine wpList_load_any rfl 33 (.tmp 37) rfl ⟨a, k * 2, none⟩ rfl [.int .u64 lsn, v] _ hcell Try.underlying33 rfl size33 ?_)
            | (go_at_call 19; refine hfits.mono ?_; clear hfits; rintro e wx ⟨rfl, hxb⟩; have b3 := rb.trans (hxb.mono rb.size); have c3 := HC.out.below b3; have d1 := row_at c3.room 1 _ rfl; have d2 := row_frozen c3.room 1))
          go_ret2
          have e := find_at hp HF.out hq HFB.out HNO.out
          refine ⟨by rw [e]; rfl, ?_, ?_⟩
          · rw [e]; exact c3.setLast k hkl
          · exact (Off.of_below (F := two g a) b3).trans (Off.of_setCell (F := two g a) wx ⟨g, 1, none⟩ (.int .i64 k) (Or.inl rfl)) (fun _ h => Or.inl h)
      · have e : k = n := by omega
        subst e
        have hkn' : ¬ (k : Int) < (k : Int) := by omega
        have HNO : Hid _ := hno
        clear hno
        go_wp2
        go_ret2
        have e := find_no hp HF.out (by rw [HN.out]; exact HNO.out)
        refine ⟨by rw [e]; rfl, ?_, Off.of_below rb⟩
        rw [e]; exact HC.out.below rb
  · have c0 := row_at c1.room 1 _ rfl
    go_wp2
    go_ret2
    have e := find_hit hp hf
    refine ⟨by rw [e]; rfl, ?_, Off.of_below bw⟩
    rw [e]; exact c1
end Go.Proofs.Ytddhjkgefninbaa
