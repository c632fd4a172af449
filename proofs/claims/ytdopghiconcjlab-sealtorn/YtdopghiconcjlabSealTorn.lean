/-
  Proved: for all uint64 stamps, all payloads of 224 bytes and every uint8 the Go function varvelaw04.SealTorn returns true and leaves its arguments as they were; no condition.
-/
import Derived.Test.YtdopghiconcjlabTorn
import Derived.Test.YtdopghiconcjlabShut
import Derived.Deep.CutRange
namespace Go.Proofs.Ytdopghiconcjlab.sealTorn
open Go.ChangeShapes Go.WideShapes Go.ChangeAt Go.RowKit
open Go.ChangeMaps (open_string shut_string)
set_option linter.unusedVariables false
set_option linter.unusedSimpArgs false

theorem own : ownKnob Try.prog.godebug = none := by kernel_rfl

def KeptT (w : World) (p q : List Int) (w' : World) : Prop := Row w' w.heap.size (bs p) 29 ∧ Row w' (w.heap.size + 1) (bs q) 29 ∧ Below w.heap.size w w'
theorem KeptT.on {w wa wb : World} {p q : List Int} (h : KeptT w p q wa) (hb : Below wa.heap.size wa wb) : KeptT w p q wb :=
  ⟨h.1.below hb h.1.lt, h.2.1.below hb h.2.1.lt, h.2.2.trans (hb.mono (Nat.le_of_lt h.1.lt))⟩
theorem KeptT.alloc {w wa : World} {p q : List Int} (h : KeptT w p q wa) (o : Obj) : KeptT w p q (wa.alloc o) :=
  ⟨h.1.alloc _, h.2.1.alloc _, h.2.2.alloc (Nat.le_of_lt h.1.lt) _⟩
theorem KeptT.set {w wa : World} {p q : List Int} (h : KeptT w p q wa) (g : Nat) (hg : w.heap.size + 1 < g) (cs : Array Value) : KeptT w p q (wa.setRow g cs) :=
  ⟨h.1.other (by omega) _, h.2.1.other (by omega) _, below_setRow h.2.2 (by omega) _⟩
def KeptM (w : World) (p q : List Int) (g6 g7 gm : Nat) (A B M : List Int) (w' : World) : Prop := Row w' g7 (bs B) 31 ∧ Row w' gm (bs M) 31 ∧ Row w' g6 (bs A) 31 ∧ KeptT w p q w'
theorem KeptM.on {w wa wb : World} {p q : List Int} {g6 g7 gm : Nat} {A B M : List Int} (h : KeptM w p q g6 g7 gm A B M wa) (hb : Below wa.heap.size wa wb) : KeptM w p q g6 g7 gm A B M wb :=
  ⟨h.1.below hb h.1.lt, h.2.1.below hb h.2.1.lt, h.2.2.1.below hb h.2.2.1.lt, h.2.2.2.on hb⟩
theorem step_alloc {P : Program} {ops : Array Oper} {o : Oper} {a : Act} {w : World} {K : Act → World → Prop} {Q : Exit → Act → World → Prop} {E : Prop} (hgd : o.guard = none) (ty : TypeId) (ho : o.op = .alloc ty)
    (cs : Array Value) (hz : (zeroValue ty).run P w = .ok (.agg cs) w) (h : K (a.put o.dst (.pointer (some ⟨w.heap.size, 0, none⟩))) (w.alloc (.cells cs ty))) :
    if Region.wanted o (yielded ops a.tmps) = true then Oper.wp P o a w K Q else E := by
  have hw : Region.wanted o (yielded ops a.tmps) = true := by simp [Region.wanted, hgd]
  rw [if_pos hw]
  unfold Oper.wp execOp
  simp [ho, hz, Instr.alloc, newVar, newRow, run_newObj_alloc, Value.cells, Result.andThen]
  exact h

set_option maxRecDepth 20000 in
set_option maxHeartbeats 4000000 in
theorem walk (x y : Int) (p q : List Int) (keep : Int) (w0 : (Lit.int .u64 x).wf = true) (w1 : (Lit.int .u64 y).wf = true) (hp : p.length = 224) (yp : Bytes p) (hq : q.length = 224) (yq : Bytes q) (w4 : (Lit.int .u8 keep).wf = true) (w : World) :
    Calls Try.prog 8 #[.int .u64 x, .int .u64 y, .agg (bs p), .agg (bs q), .int .u8 keep] w fun e w' => e = .returned (.bool true) ∧ Below w.heap.size w w' := by
  have hx := bounds_u64 w0
  have hy := bounds_u64 w1
  have hk := bounds_u8 w4
  clear w0 w1 w4
  obtain ⟨c, rfl⟩ := Int.eq_ofNat_of_zero_le hk.1
  have hc : c < 256 := by omega
  clear hk
  have hAl := sealN_length x p 4 (by omega)
  have hBl := sealN_length y q 4 (by omega)
  have hAy := sealN_bytes x p yp
  have hBy := sealN_bytes y q yq
  have hmix := open_mixed c x y p q hx hy
  have hoA := open_sealed x p hp hx.1 hx.2
  have hoB := open_sealed y q hq hy.1 hy.2
  obtain ⟨A, HA⟩ : ∃ A, Hid (sealN x p 4 = A) := ⟨_, rfl⟩
  obtain ⟨B, HB⟩ : ∃ B, Hid (sealN y q 4 = B) := ⟨_, rfl⟩
  rw [HA.out] at hAl hAy hmix hoA
  rw [HB.out] at hBl hBy hmix hoB
  have HMIX := show Hid _ from hmix
  have HOA := show Hid _ from hoA
  have HOB := show Hid _ from hoB
  clear hmix hoA hoB
  have hz := zero31
  have hz' := zero29
  have h0 : KeptT w p q ((w.alloc (.cells (bs p) 29)).alloc (.cells (bs q) 29)) := by
    refine ⟨(Row.new _ _ _).alloc _, ?_, ((Below.refl _ _).alloc (Nat.le_refl _) _).alloc (by simp) _⟩
    have := Row.new (w.alloc (.cells (bs p) 29)) (bs q) 29; simpa using this
  go_enter Try.func8, Try.ntmps8
  go_wp2
  generalize (w.alloc (.cells (bs p) 29)).alloc (.cells (bs q) 29) = w1 at h0 ⊢
  have h1 : KeptT w p q w1.drew := ⟨h0.1, h0.2.1, h0.2.2.drew⟩
  go_cut [11, 12] from 18 to 23 (fun a b wx => ∃ g6 g7, a = .pointer (some ⟨g6, 0, none⟩) ∧ b = .pointer (some ⟨g7, 0, none⟩) ∧ Row wx g6 (bs A) 31 ∧ Row wx g7 (bs B) 31 ∧ g6 ≠ g7 ∧ w.heap.size + 1 < g6 ∧ w.heap.size + 1 < g7 ∧ KeptT w p q wx)
  case first =>
    refine wp_region_held_drew (S := KeptT w p q) (by kernel_rfl) h1 fun hS => ?_
    refine wpAnyH_take (i := 0) (v := .int .u64 x) rfl (by kernel_rfl) (by kernel_rfl) (by kernel_rfl) (fun _ _ _ h => h) (Or.inl ⟨by rfl, fun w _ => by rfl⟩) hS ?_
    try simp only [Act.put, List.getElem_toArray, List.getElem_cons_zero, List.getElem_cons_succ, List.setIfInBounds_toArray, List.set_cons_zero, List.set_cons_succ]
    refine wpAnyH_take (i := 1) (v := .agg (bs p)) rfl (by kernel_rfl) (by kernel_rfl) (by kernel_rfl) (fun _ _ _ h => h) (yields_row (by rfl) 29 (.tmp 7) rfl w.heap.size rfl 29 (bs p) (fun w h => h.1) 224 5 Try.underlying29 size29 (by rw [bs_size, hp])) hS ?_
    try simp only [Act.put, List.getElem_toArray, List.getElem_cons_zero, List.getElem_cons_succ, List.setIfInBounds_toArray, List.set_cons_zero, List.set_cons_succ]
    refine wpAnyH_take (i := 3) (v := .int .u64 y) rfl (by kernel_rfl) (by kernel_rfl) (by kernel_rfl) (fun _ _ _ h => h) (Or.inl ⟨by rfl, fun w _ => by rfl⟩) hS ?_
    try simp only [Act.put, List.getElem_toArray, List.getElem_cons_zero, List.getElem_cons_succ, List.setIfInBounds_toArray, List.set_cons_zero, List.set_cons_succ]
    refine wpAnyH_take (i := 4) (v := .agg (bs q)) rfl (by kernel_rfl) (by kernel_rfl) (by kernel_rfl) (fun _ _ _ h => h) (yields_row (by rfl) 29 (.tmp 8) rfl (w.heap.size + 1) rfl 29 (bs q) (fun w h => h.2.1) 224 5 Try.underlying29 size29 (by rw [bs_size, hq])) hS ?_
    try simp only [Act.put, List.getElem_toArray, List.getElem_cons_zero, List.getElem_cons_succ, List.setIfInBounds_toArray, List.set_cons_zero, List.set_cons_succ]
    refine wpAnyH_ready (rs := [2, 6, 7]) (by kernel_rfl) (by simp) ?_
    refine AllReadyH.cons rfl (fun K hK => ?_) ?_
    · go_simp
      go_at_call 11
      refine (seal_any x p hp _ hx.1 hx.2).mono ?_
      rw [HA.out]; rintro e wc ⟨rfl, hcb⟩
      refine hK.out _ _ (hS.on hcb) fun hS => ?_
      try simp only [Act.put, List.getElem_toArray, List.getElem_cons_zero, List.getElem_cons_succ, List.setIfInBounds_toArray, List.set_cons_zero, List.set_cons_succ]
      clear hK hcb
      refine wpAnyH_ready (rs := [5, 6, 7]) (by kernel_rfl) (by simp) ?_
      refine AllReadyH.cons rfl (fun K hK => ?_) ?_
      · go_simp
        go_at_call 11
        refine (seal_any y q hq _ hy.1 hy.2).mono ?_
        rw [HB.out]; rintro e wc ⟨rfl, hcb⟩
        refine hK.out _ _ (hS.on hcb) fun hS => ?_
        try simp only [Act.put, List.getElem_toArray, List.getElem_cons_zero, List.getElem_cons_succ, List.setIfInBounds_toArray, List.set_cons_zero, List.set_cons_succ]
        clear hK hcb
        refine wpAnyH_ready (rs := [6, 7]) (by kernel_rfl) (by simp) ?_
        refine AllReadyH.cons rfl (fun K hK => ?_) ?_
        · refine step_alloc rfl 31 rfl (bs (zs 256)) (zero31 _) (hK.out _ _ (hS.alloc _) fun hS' => ?_)
          try simp only [Act.put, List.getElem_toArray, List.getElem_cons_zero, List.getElem_cons_succ, List.setIfInBounds_toArray, List.set_cons_zero, List.set_cons_succ]
          have r6 := Row.new wc (bs (zs 256)) 31
          have l6 := hS.2.1.lt
          obtain ⟨g6, hg⟩ : ∃ g, g = (wc).heap.size := ⟨_, rfl⟩
          rw [← hg] at r6 l6 ⊢
          clear hK hS hg
          generalize (wc).alloc (.cells (bs (zs 256)) 31) = w6 at r6 hS' ⊢
          have hS := hS'
          clear hS'
          refine wpAnyH_ready (rs := [7]) (by kernel_rfl) (by simp) ?_
          refine AllReadyH.cons rfl (fun K hK => ?_) AllReadyH.nil
          refine step_alloc rfl 31 rfl (bs (zs 256)) (zero31 _) (hK.out _ _ (hS.alloc _) fun hS' => ?_)
          try simp only [Act.put, List.getElem_toArray, List.getElem_cons_zero, List.getElem_cons_succ, List.setIfInBounds_toArray, List.set_cons_zero, List.set_cons_succ]
          have r7 := Row.new w6 (bs (zs 256)) 31
          have l7 := hS.2.1.lt
          have l67 := r6.lt
          have r6' := r6.alloc (.cells (bs (zs 256)) 31)
          obtain ⟨g7, hg⟩ : ∃ g, g = (w6).heap.size := ⟨_, rfl⟩
          rw [← hg] at r7 l7 l67 ⊢
          clear hK hS hg
          generalize (w6).alloc (.cells (bs (zs 256)) 31) = w7 at r7 r6' hS' ⊢
          have hS := hS'
          clear hS'
          clear r6
          have r6 := r6'
          have ne : g6 ≠ g7 := Nat.ne_of_lt l67
          refine wpAnyH_ready (rs := [8]) (by kernel_rfl) (by simp) ?_
          refine AllReadyH.cons rfl (fun K hK => step_store rfl 31 (.tmp 11) (.tmp 20) rfl g6 A rfl rfl 31 (bs (zs 256)) r6 256 size31 (by rw [bs_size, zs_length]) hAl (hK.out _ _ (hS.set g6 l6 _) fun hS => ?_)) AllReadyH.nil
          try simp only [Act.put, List.getElem_toArray, List.getElem_cons_zero, List.getElem_cons_succ, List.setIfInBounds_toArray, List.set_cons_zero, List.set_cons_succ]
          have r6' := r6.set (bs A)
          have r7' := r7.other (Ne.symm ne) (bs A)
          refine wpAnyH_ready (rs := [9]) (by kernel_rfl) (by simp) ?_
          refine AllReadyH.cons rfl (fun K hK => step_store rfl 31 (.tmp 12) (.tmp 23) rfl g7 B rfl rfl 31 (bs (zs 256)) r7' 256 size31 (by rw [bs_size, zs_length]) hBl (hK.out _ _ (hS.set g7 l7 _) fun hS => ?_)) AllReadyH.nil
          try simp only [Act.put, List.getElem_toArray, List.getElem_cons_zero, List.getElem_cons_succ, List.setIfInBounds_toArray, List.set_cons_zero, List.set_cons_succ]
          refine wpAnyH_done (by kernel_rfl) ?_ _
          go_wp2_with fail
          go_meet
          case rel => exact ⟨g6, g7, rfl, rfl, r6'.other ne _, r7'.set _, ne, l6, l7, hS⟩
        refine AllReadyH.cons rfl (fun K hK => ?_) AllReadyH.nil
        refine step_alloc rfl 31 rfl (bs (zs 256)) (zero31 _) (hK.out _ _ (hS.alloc _) fun hS' => ?_)
        try simp only [Act.put, List.getElem_toArray, List.getElem_cons_zero, List.getElem_cons_succ, List.setIfInBounds_toArray, List.set_cons_zero, List.set_cons_succ]
        have r7 := Row.new wc (bs (zs 256)) 31
        have l7 := hS.2.1.lt
        obtain ⟨g7, hg⟩ : ∃ g, g = (wc).heap.size := ⟨_, rfl⟩
        rw [← hg] at r7 l7 ⊢
        clear hK hS hg
        generalize (wc).alloc (.cells (bs (zs 256)) 31) = w7 at r7 hS' ⊢
        have hS := hS'
        clear hS'
        refine wpAnyH_ready (rs := [6]) (by kernel_rfl) (by simp) ?_
        refine AllReadyH.cons rfl (fun K hK => ?_) AllReadyH.nil
        refine step_alloc rfl 31 rfl (bs (zs 256)) (zero31 _) (hK.out _ _ (hS.alloc _) fun hS' => ?_)
        try simp only [Act.put, List.getElem_toArray, List.getElem_cons_zero, List.getElem_cons_succ, List.setIfInBounds_toArray, List.set_cons_zero, List.set_cons_succ]
        have r6 := Row.new w7 (bs (zs 256)) 31
        have l6 := hS.2.1.lt
        have l67 := r7.lt
        have r7' := r7.alloc (.cells (bs (zs 256)) 31)
        obtain ⟨g6, hg⟩ : ∃ g, g = (w7).heap.size := ⟨_, rfl⟩
        rw [← hg] at r6 l6 l67 ⊢
        clear hK hS hg
        generalize (w7).alloc (.cells (bs (zs 256)) 31) = w6 at r6 r7' hS' ⊢
        have hS := hS'
        clear hS'
        clear r7
        have r7 := r7'
        have ne : g6 ≠ g7 := Nat.ne_of_gt l67
        refine wpAnyH_ready (rs := [8]) (by kernel_rfl) (by simp) ?_
        refine AllReadyH.cons rfl (fun K hK => step_store rfl 31 (.tmp 11) (.tmp 20) rfl g6 A rfl rfl 31 (bs (zs 256)) r6 256 size31 (by rw [bs_size, zs_length]) hAl (hK.out _ _ (hS.set g6 l6 _) fun hS => ?_)) AllReadyH.nil
        try simp only [Act.put, List.getElem_toArray, List.getElem_cons_zero, List.getElem_cons_succ, List.setIfInBounds_toArray, List.set_cons_zero, List.set_cons_succ]
        have r6' := r6.set (bs A)
        have r7' := r7.other (Ne.symm ne) (bs A)
        refine wpAnyH_ready (rs := [9]) (by kernel_rfl) (by simp) ?_
        refine AllReadyH.cons rfl (fun K hK => step_store rfl 31 (.tmp 12) (.tmp 23) rfl g7 B rfl rfl 31 (bs (zs 256)) r7' 256 size31 (by rw [bs_size, zs_length]) hBl (hK.out _ _ (hS.set g7 l7 _) fun hS => ?_)) AllReadyH.nil
        try simp only [Act.put, List.getElem_toArray, List.getElem_cons_zero, List.getElem_cons_succ, List.setIfInBounds_toArray, List.set_cons_zero, List.set_cons_succ]
        refine wpAnyH_done (by kernel_rfl) ?_ _
        go_wp2_with fail
        go_meet
        case rel => exact ⟨g6, g7, rfl, rfl, r6'.other ne _, r7'.set _, ne, l6, l7, hS⟩
      refine AllReadyH.cons rfl (fun K hK => ?_) ?_
      · refine step_alloc rfl 31 rfl (bs (zs 256)) (zero31 _) (hK.out _ _ (hS.alloc _) fun hS' => ?_)
        try simp only [Act.put, List.getElem_toArray, List.getElem_cons_zero, List.getElem_cons_succ, List.setIfInBounds_toArray, List.set_cons_zero, List.set_cons_succ]
        have r6 := Row.new wc (bs (zs 256)) 31
        have l6 := hS.2.1.lt
        obtain ⟨g6, hg⟩ : ∃ g, g = (wc).heap.size := ⟨_, rfl⟩
        rw [← hg] at r6 l6 ⊢
        clear hK hS hg
        generalize (wc).alloc (.cells (bs (zs 256)) 31) = w6 at r6 hS' ⊢
        have hS := hS'
        clear hS'
        refine wpAnyH_ready (rs := [5, 7]) (by kernel_rfl) (by simp) ?_
        refine AllReadyH.cons rfl (fun K hK => ?_) ?_
        · go_simp
          go_at_call 11
          refine (seal_any y q hq _ hy.1 hy.2).mono ?_
          rw [HB.out]; rintro e wc ⟨rfl, hcb⟩
          have r6 := r6.below hcb r6.lt
          refine hK.out _ _ (hS.on hcb) fun hS => ?_
          try simp only [Act.put, List.getElem_toArray, List.getElem_cons_zero, List.getElem_cons_succ, List.setIfInBounds_toArray, List.set_cons_zero, List.set_cons_succ]
          clear hK hcb
          refine wpAnyH_ready (rs := [7]) (by kernel_rfl) (by simp) ?_
          refine AllReadyH.cons rfl (fun K hK => ?_) AllReadyH.nil
          refine step_alloc rfl 31 rfl (bs (zs 256)) (zero31 _) (hK.out _ _ (hS.alloc _) fun hS' => ?_)
          try simp only [Act.put, List.getElem_toArray, List.getElem_cons_zero, List.getElem_cons_succ, List.setIfInBounds_toArray, List.set_cons_zero, List.set_cons_succ]
          have r7 := Row.new wc (bs (zs 256)) 31
          have l7 := hS.2.1.lt
          have l67 := r6.lt
          have r6' := r6.alloc (.cells (bs (zs 256)) 31)
          obtain ⟨g7, hg⟩ : ∃ g, g = (wc).heap.size := ⟨_, rfl⟩
          rw [← hg] at r7 l7 l67 ⊢
          clear hK hS hg
          generalize (wc).alloc (.cells (bs (zs 256)) 31) = w7 at r7 r6' hS' ⊢
          have hS := hS'
          clear hS'
          clear r6
          have r6 := r6'
          have ne : g6 ≠ g7 := Nat.ne_of_lt l67
          refine wpAnyH_ready (rs := [8]) (by kernel_rfl) (by simp) ?_
          refine AllReadyH.cons rfl (fun K hK => step_store rfl 31 (.tmp 11) (.tmp 20) rfl g6 A rfl rfl 31 (bs (zs 256)) r6 256 size31 (by rw [bs_size, zs_length]) hAl (hK.out _ _ (hS.set g6 l6 _) fun hS => ?_)) AllReadyH.nil
          try simp only [Act.put, List.getElem_toArray, List.getElem_cons_zero, List.getElem_cons_succ, List.setIfInBounds_toArray, List.set_cons_zero, List.set_cons_succ]
          have r6' := r6.set (bs A)
          have r7' := r7.other (Ne.symm ne) (bs A)
          refine wpAnyH_ready (rs := [9]) (by kernel_rfl) (by simp) ?_
          refine AllReadyH.cons rfl (fun K hK => step_store rfl 31 (.tmp 12) (.tmp 23) rfl g7 B rfl rfl 31 (bs (zs 256)) r7' 256 size31 (by rw [bs_size, zs_length]) hBl (hK.out _ _ (hS.set g7 l7 _) fun hS => ?_)) AllReadyH.nil
          try simp only [Act.put, List.getElem_toArray, List.getElem_cons_zero, List.getElem_cons_succ, List.setIfInBounds_toArray, List.set_cons_zero, List.set_cons_succ]
          refine wpAnyH_done (by kernel_rfl) ?_ _
          go_wp2_with fail
          go_meet
          case rel => exact ⟨g6, g7, rfl, rfl, r6'.other ne _, r7'.set _, ne, l6, l7, hS⟩
        refine AllReadyH.cons rfl (fun K hK => ?_) AllReadyH.nil
        refine step_alloc rfl 31 rfl (bs (zs 256)) (zero31 _) (hK.out _ _ (hS.alloc _) fun hS' => ?_)
        try simp only [Act.put, List.getElem_toArray, List.getElem_cons_zero, List.getElem_cons_succ, List.setIfInBounds_toArray, List.set_cons_zero, List.set_cons_succ]
        have r7 := Row.new w6 (bs (zs 256)) 31
        have l7 := hS.2.1.lt
        have l67 := r6.lt
        have r6' := r6.alloc (.cells (bs (zs 256)) 31)
        obtain ⟨g7, hg⟩ : ∃ g, g = (w6).heap.size := ⟨_, rfl⟩
        rw [← hg] at r7 l7 l67 ⊢
        clear hK hS hg
        generalize (w6).alloc (.cells (bs (zs 256)) 31) = w7 at r7 r6' hS' ⊢
        have hS := hS'
        clear hS'
        clear r6
        have r6 := r6'
        refine wpAnyH_ready (rs := [5]) (by kernel_rfl) (by simp) ?_
        refine AllReadyH.cons rfl (fun K hK => ?_) AllReadyH.nil
        go_simp
        go_at_call 11
        refine (seal_any y q hq _ hy.1 hy.2).mono ?_
        rw [HB.out]; rintro e wc ⟨rfl, hcb⟩
        have r6 := r6.below hcb r6.lt
        have r7 := r7.below hcb r7.lt
        refine hK.out _ _ (hS.on hcb) fun hS => ?_
        try simp only [Act.put, List.getElem_toArray, List.getElem_cons_zero, List.getElem_cons_succ, List.setIfInBounds_toArray, List.set_cons_zero, List.set_cons_succ]
        clear hK hcb
        have ne : g6 ≠ g7 := Nat.ne_of_lt l67
        refine wpAnyH_ready (rs := [8]) (by kernel_rfl) (by simp) ?_
        refine AllReadyH.cons rfl (fun K hK => step_store rfl 31 (.tmp 11) (.tmp 20) rfl g6 A rfl rfl 31 (bs (zs 256)) r6 256 size31 (by rw [bs_size, zs_length]) hAl (hK.out _ _ (hS.set g6 l6 _) fun hS => ?_)) AllReadyH.nil
        try simp only [Act.put, List.getElem_toArray, List.getElem_cons_zero, List.getElem_cons_succ, List.setIfInBounds_toArray, List.set_cons_zero, List.set_cons_succ]
        have r6' := r6.set (bs A)
        have r7' := r7.other (Ne.symm ne) (bs A)
        refine wpAnyH_ready (rs := [9]) (by kernel_rfl) (by simp) ?_
        refine AllReadyH.cons rfl (fun K hK => step_store rfl 31 (.tmp 12) (.tmp 23) rfl g7 B rfl rfl 31 (bs (zs 256)) r7' 256 size31 (by rw [bs_size, zs_length]) hBl (hK.out _ _ (hS.set g7 l7 _) fun hS => ?_)) AllReadyH.nil
        try simp only [Act.put, List.getElem_toArray, List.getElem_cons_zero, List.getElem_cons_succ, List.setIfInBounds_toArray, List.set_cons_zero, List.set_cons_succ]
        refine wpAnyH_done (by kernel_rfl) ?_ _
        go_wp2_with fail
        go_meet
        case rel => exact ⟨g6, g7, rfl, rfl, r6'.other ne _, r7'.set _, ne, l6, l7, hS⟩
      refine AllReadyH.cons rfl (fun K hK => ?_) AllReadyH.nil
      refine step_alloc rfl 31 rfl (bs (zs 256)) (zero31 _) (hK.out _ _ (hS.alloc _) fun hS' => ?_)
      try simp only [Act.put, List.getElem_toArray, List.getElem_cons_zero, List.getElem_cons_succ, List.setIfInBounds_toArray, List.set_cons_zero, List.set_cons_succ]
      have r7 := Row.new wc (bs (zs 256)) 31
      have l7 := hS.2.1.lt
      obtain ⟨g7, hg⟩ : ∃ g, g = (wc).heap.size := ⟨_, rfl⟩
      rw [← hg] at r7 l7 ⊢
      clear hK hS hg
      generalize (wc).alloc (.cells (bs (zs 256)) 31) = w7 at r7 hS' ⊢
      have hS := hS'
      clear hS'
      refine wpAnyH_ready (rs := [5, 6]) (by kernel_rfl) (by simp) ?_
      refine AllReadyH.cons rfl (fun K hK => ?_) ?_
      · go_simp
        go_at_call 11
        refine (seal_any y q hq _ hy.1 hy.2).mono ?_
        rw [HB.out]; rintro e wc ⟨rfl, hcb⟩
        have r7 := r7.below hcb r7.lt
        refine hK.out _ _ (hS.on hcb) fun hS => ?_
        try simp only [Act.put, List.getElem_toArray, List.getElem_cons_zero, List.getElem_cons_succ, List.setIfInBounds_toArray, List.set_cons_zero, List.set_cons_succ]
        clear hK hcb
        refine wpAnyH_ready (rs := [6]) (by kernel_rfl) (by simp) ?_
        refine AllReadyH.cons rfl (fun K hK => ?_) AllReadyH.nil
        refine step_alloc rfl 31 rfl (bs (zs 256)) (zero31 _) (hK.out _ _ (hS.alloc _) fun hS' => ?_)
        try simp only [Act.put, List.getElem_toArray, List.getElem_cons_zero, List.getElem_cons_succ, List.setIfInBounds_toArray, List.set_cons_zero, List.set_cons_succ]
        have r6 := Row.new wc (bs (zs 256)) 31
        have l6 := hS.2.1.lt
        have l67 := r7.lt
        have r7' := r7.alloc (.cells (bs (zs 256)) 31)
        obtain ⟨g6, hg⟩ : ∃ g, g = (wc).heap.size := ⟨_, rfl⟩
        rw [← hg] at r6 l6 l67 ⊢
        clear hK hS hg
        generalize (wc).alloc (.cells (bs (zs 256)) 31) = w6 at r6 r7' hS' ⊢
        have hS := hS'
        clear hS'
        clear r7
        have r7 := r7'
        have ne : g6 ≠ g7 := Nat.ne_of_gt l67
        refine wpAnyH_ready (rs := [8]) (by kernel_rfl) (by simp) ?_
        refine AllReadyH.cons rfl (fun K hK => step_store rfl 31 (.tmp 11) (.tmp 20) rfl g6 A rfl rfl 31 (bs (zs 256)) r6 256 size31 (by rw [bs_size, zs_length]) hAl (hK.out _ _ (hS.set g6 l6 _) fun hS => ?_)) AllReadyH.nil
        try simp only [Act.put, List.getElem_toArray, List.getElem_cons_zero, List.getElem_cons_succ, List.setIfInBounds_toArray, List.set_cons_zero, List.set_cons_succ]
        have r6' := r6.set (bs A)
        have r7' := r7.other (Ne.symm ne) (bs A)
        refine wpAnyH_ready (rs := [9]) (by kernel_rfl) (by simp) ?_
        refine AllReadyH.cons rfl (fun K hK => step_store rfl 31 (.tmp 12) (.tmp 23) rfl g7 B rfl rfl 31 (bs (zs 256)) r7' 256 size31 (by rw [bs_size, zs_length]) hBl (hK.out _ _ (hS.set g7 l7 _) fun hS => ?_)) AllReadyH.nil
        try simp only [Act.put, List.getElem_toArray, List.getElem_cons_zero, List.getElem_cons_succ, List.setIfInBounds_toArray, List.set_cons_zero, List.set_cons_succ]
        refine wpAnyH_done (by kernel_rfl) ?_ _
        go_wp2_with fail
        go_meet
        case rel => exact ⟨g6, g7, rfl, rfl, r6'.other ne _, r7'.set _, ne, l6, l7, hS⟩
      refine AllReadyH.cons rfl (fun K hK => ?_) AllReadyH.nil
      refine step_alloc rfl 31 rfl (bs (zs 256)) (zero31 _) (hK.out _ _ (hS.alloc _) fun hS' => ?_)
      try simp only [Act.put, List.getElem_toArray, List.getElem_cons_zero, List.getElem_cons_succ, List.setIfInBounds_toArray, List.set_cons_zero, List.set_cons_succ]
      have r6 := Row.new w7 (bs (zs 256)) 31
      have l6 := hS.2.1.lt
      have l67 := r7.lt
      have r7' := r7.alloc (.cells (bs (zs 256)) 31)
      obtain ⟨g6, hg⟩ : ∃ g, g = (w7).heap.size := ⟨_, rfl⟩
      rw [← hg] at r6 l6 l67 ⊢
      clear hK hS hg
      generalize (w7).alloc (.cells (bs (zs 256)) 31) = w6 at r6 r7' hS' ⊢
      have hS := hS'
      clear hS'
      clear r7
      have r7 := r7'
      refine wpAnyH_ready (rs := [5]) (by kernel_rfl) (by simp) ?_
      refine AllReadyH.cons rfl (fun K hK => ?_) AllReadyH.nil
      go_simp
      go_at_call 11
      refine (seal_any y q hq _ hy.1 hy.2).mono ?_
      rw [HB.out]; rintro e wc ⟨rfl, hcb⟩
      have r6 := r6.below hcb r6.lt
      have r7 := r7.below hcb r7.lt
      refine hK.out _ _ (hS.on hcb) fun hS => ?_
      try simp only [Act.put, List.getElem_toArray, List.getElem_cons_zero, List.getElem_cons_succ, List.setIfInBounds_toArray, List.set_cons_zero, List.set_cons_succ]
      clear hK hcb
      have ne : g6 ≠ g7 := Nat.ne_of_gt l67
      refine wpAnyH_ready (rs := [8]) (by kernel_rfl) (by simp) ?_
      refine AllReadyH.cons rfl (fun K hK => step_store rfl 31 (.tmp 11) (.tmp 20) rfl g6 A rfl rfl 31 (bs (zs 256)) r6 256 size31 (by rw [bs_size, zs_length]) hAl (hK.out _ _ (hS.set g6 l6 _) fun hS => ?_)) AllReadyH.nil
      try simp only [Act.put, List.getElem_toArray, List.getElem_cons_zero, List.getElem_cons_succ, List.setIfInBounds_toArray, List.set_cons_zero, List.set_cons_succ]
      have r6' := r6.set (bs A)
      have r7' := r7.other (Ne.symm ne) (bs A)
      refine wpAnyH_ready (rs := [9]) (by kernel_rfl) (by simp) ?_
      refine AllReadyH.cons rfl (fun K hK => step_store rfl 31 (.tmp 12) (.tmp 23) rfl g7 B rfl rfl 31 (bs (zs 256)) r7' 256 size31 (by rw [bs_size, zs_length]) hBl (hK.out _ _ (hS.set g7 l7 _) fun hS => ?_)) AllReadyH.nil
      try simp only [Act.put, List.getElem_toArray, List.getElem_cons_zero, List.getElem_cons_succ, List.setIfInBounds_toArray, List.set_cons_zero, List.set_cons_succ]
      refine wpAnyH_done (by kernel_rfl) ?_ _
      go_wp2_with fail
      go_meet
      case rel => exact ⟨g6, g7, rfl, rfl, r6'.other ne _, r7'.set _, ne, l6, l7, hS⟩
    refine AllReadyH.cons rfl (fun K hK => ?_) ?_
    · refine step_alloc rfl 31 rfl (bs (zs 256)) (zero31 _) (hK.out _ _ (hS.alloc _) fun hS' => ?_)
      try simp only [Act.put, List.getElem_toArray, List.getElem_cons_zero, List.getElem_cons_succ, List.setIfInBounds_toArray, List.set_cons_zero, List.set_cons_succ]
      have r6 := Row.new w1.drew (bs (zs 256)) 31
      have l6 := hS.2.1.lt
      obtain ⟨g6, hg⟩ : ∃ g, g = (w1.drew).heap.size := ⟨_, rfl⟩
      rw [← hg] at r6 l6 ⊢
      clear hK hS hg
      generalize (w1.drew).alloc (.cells (bs (zs 256)) 31) = w6 at r6 hS' ⊢
      have hS := hS'
      clear hS'
      refine wpAnyH_ready (rs := [2, 7]) (by kernel_rfl) (by simp) ?_
      refine AllReadyH.cons rfl (fun K hK => ?_) ?_
      · go_simp
        go_at_call 11
        refine (seal_any x p hp _ hx.1 hx.2).mono ?_
        rw [HA.out]; rintro e wc ⟨rfl, hcb⟩
        have r6 := r6.below hcb r6.lt
        refine hK.out _ _ (hS.on hcb) fun hS => ?_
        try simp only [Act.put, List.getElem_toArray, List.getElem_cons_zero, List.getElem_cons_succ, List.setIfInBounds_toArray, List.set_cons_zero, List.set_cons_succ]
        clear hK hcb
        refine wpAnyH_ready (rs := [5, 7]) (by kernel_rfl) (by simp) ?_
        refine AllReadyH.cons rfl (fun K hK => ?_) ?_
        · go_simp
          go_at_call 11
          refine (seal_any y q hq _ hy.1 hy.2).mono ?_
          rw [HB.out]; rintro e wc ⟨rfl, hcb⟩
          have r6 := r6.below hcb r6.lt
          refine hK.out _ _ (hS.on hcb) fun hS => ?_
          try simp only [Act.put, List.getElem_toArray, List.getElem_cons_zero, List.getElem_cons_succ, List.setIfInBounds_toArray, List.set_cons_zero, List.set_cons_succ]
          clear hK hcb
          refine wpAnyH_ready (rs := [7]) (by kernel_rfl) (by simp) ?_
          refine AllReadyH.cons rfl (fun K hK => ?_) AllReadyH.nil
          refine step_alloc rfl 31 rfl (bs (zs 256)) (zero31 _) (hK.out _ _ (hS.alloc _) fun hS' => ?_)
          try simp only [Act.put, List.getElem_toArray, List.getElem_cons_zero, List.getElem_cons_succ, List.setIfInBounds_toArray, List.set_cons_zero, List.set_cons_succ]
          have r7 := Row.new wc (bs (zs 256)) 31
          have l7 := hS.2.1.lt
          have l67 := r6.lt
          have r6' := r6.alloc (.cells (bs (zs 256)) 31)
          obtain ⟨g7, hg⟩ : ∃ g, g = (wc).heap.size := ⟨_, rfl⟩
          rw [← hg] at r7 l7 l67 ⊢
          clear hK hS hg
          generalize (wc).alloc (.cells (bs (zs 256)) 31) = w7 at r7 r6' hS' ⊢
          have hS := hS'
          clear hS'
          clear r6
          have r6 := r6'
          have ne : g6 ≠ g7 := Nat.ne_of_lt l67
          refine wpAnyH_ready (rs := [8]) (by kernel_rfl) (by simp) ?_
          refine AllReadyH.cons rfl (fun K hK => step_store rfl 31 (.tmp 11) (.tmp 20) rfl g6 A rfl rfl 31 (bs (zs 256)) r6 256 size31 (by rw [bs_size, zs_length]) hAl (hK.out _ _ (hS.set g6 l6 _) fun hS => ?_)) AllReadyH.nil
          try simp only [Act.put, List.getElem_toArray, List.getElem_cons_zero, List.getElem_cons_succ, List.setIfInBounds_toArray, List.set_cons_zero, List.set_cons_succ]
          have r6' := r6.set (bs A)
          have r7' := r7.other (Ne.symm ne) (bs A)
          refine wpAnyH_ready (rs := [9]) (by kernel_rfl) (by simp) ?_
          refine AllReadyH.cons rfl (fun K hK => step_store rfl 31 (.tmp 12) (.tmp 23) rfl g7 B rfl rfl 31 (bs (zs 256)) r7' 256 size31 (by rw [bs_size, zs_length]) hBl (hK.out _ _ (hS.set g7 l7 _) fun hS => ?_)) AllReadyH.nil
          try simp only [Act.put, List.getElem_toArray, List.getElem_cons_zero, List.getElem_cons_succ, List.setIfInBounds_toArray, List.set_cons_zero, List.set_cons_succ]
          refine wpAnyH_done (by kernel_rfl) ?_ _
          go_wp2_with fail
          go_meet
          case rel => exact ⟨g6, g7, rfl, rfl, r6'.other ne _, r7'.set _, ne, l6, l7, hS⟩
        refine AllReadyH.cons rfl (fun K hK => ?_) AllReadyH.nil
        refine step_alloc rfl 31 rfl (bs (zs 256)) (zero31 _) (hK.out _ _ (hS.alloc _) fun hS' => ?_)
        try simp only [Act.put, List.getElem_toArray, List.getElem_cons_zero, List.getElem_cons_succ, List.setIfInBounds_toArray, List.set_cons_zero, List.set_cons_succ]
        have r7 := Row.new wc (bs (zs 256)) 31
        have l7 := hS.2.1.lt
        have l67 := r6.lt
        have r6' := r6.alloc (.cells (bs (zs 256)) 31)
        obtain ⟨g7, hg⟩ : ∃ g, g = (wc).heap.size := ⟨_, rfl⟩
        rw [← hg] at r7 l7 l67 ⊢
        clear hK hS hg
        generalize (wc).alloc (.cells (bs (zs 256)) 31) = w7 at r7 r6' hS' ⊢
        have hS := hS'
        clear hS'
        clear r6
        have r6 := r6'
        refine wpAnyH_ready (rs := [5]) (by kernel_rfl) (by simp) ?_
        refine AllReadyH.cons rfl (fun K hK => ?_) AllReadyH.nil
        go_simp
        go_at_call 11
        refine (seal_any y q hq _ hy.1 hy.2).mono ?_
        rw [HB.out]; rintro e wc ⟨rfl, hcb⟩
        have r6 := r6.below hcb r6.lt
        have r7 := r7.below hcb r7.lt
        refine hK.out _ _ (hS.on hcb) fun hS => ?_
        try simp only [Act.put, List.getElem_toArray, List.getElem_cons_zero, List.getElem_cons_succ, List.setIfInBounds_toArray, List.set_cons_zero, List.set_cons_succ]
        clear hK hcb
        have ne : g6 ≠ g7 := Nat.ne_of_lt l67
        refine wpAnyH_ready (rs := [8]) (by kernel_rfl) (by simp) ?_
        refine AllReadyH.cons rfl (fun K hK => step_store rfl 31 (.tmp 11) (.tmp 20) rfl g6 A rfl rfl 31 (bs (zs 256)) r6 256 size31 (by rw [bs_size, zs_length]) hAl (hK.out _ _ (hS.set g6 l6 _) fun hS => ?_)) AllReadyH.nil
        try simp only [Act.put, List.getElem_toArray, List.getElem_cons_zero, List.getElem_cons_succ, List.setIfInBounds_toArray, List.set_cons_zero, List.set_cons_succ]
        have r6' := r6.set (bs A)
        have r7' := r7.other (Ne.symm ne) (bs A)
        refine wpAnyH_ready (rs := [9]) (by kernel_rfl) (by simp) ?_
        refine AllReadyH.cons rfl (fun K hK => step_store rfl 31 (.tmp 12) (.tmp 23) rfl g7 B rfl rfl 31 (bs (zs 256)) r7' 256 size31 (by rw [bs_size, zs_length]) hBl (hK.out _ _ (hS.set g7 l7 _) fun hS => ?_)) AllReadyH.nil
        try simp only [Act.put, List.getElem_toArray, List.getElem_cons_zero, List.getElem_cons_succ, List.setIfInBounds_toArray, List.set_cons_zero, List.set_cons_succ]
        refine wpAnyH_done (by kernel_rfl) ?_ _
        go_wp2_with fail
        go_meet
        case rel => exact ⟨g6, g7, rfl, rfl, r6'.other ne _, r7'.set _, ne, l6, l7, hS⟩
      refine AllReadyH.cons rfl (fun K hK => ?_) AllReadyH.nil
      refine step_alloc rfl 31 rfl (bs (zs 256)) (zero31 _) (hK.out _ _ (hS.alloc _) fun hS' => ?_)
      try simp only [Act.put, List.getElem_toArray, List.getElem_cons_zero, List.getElem_cons_succ, List.setIfInBounds_toArray, List.set_cons_zero, List.set_cons_succ]
      have r7 := Row.new w6 (bs (zs 256)) 31
      have l7 := hS.2.1.lt
      have l67 := r6.lt
      have r6' := r6.alloc (.cells (bs (zs 256)) 31)
      obtain ⟨g7, hg⟩ : ∃ g, g = (w6).heap.size := ⟨_, rfl⟩
      rw [← hg] at r7 l7 l67 ⊢
      clear hK hS hg
      generalize (w6).alloc (.cells (bs (zs 256)) 31) = w7 at r7 r6' hS' ⊢
      have hS := hS'
      clear hS'
      clear r6
      have r6 := r6'
      refine wpAnyH_ready (rs := [2]) (by kernel_rfl) (by simp) ?_
      refine AllReadyH.cons rfl (fun K hK => ?_) AllReadyH.nil
      go_simp
      go_at_call 11
      refine (seal_any x p hp _ hx.1 hx.2).mono ?_
      rw [HA.out]; rintro e wc ⟨rfl, hcb⟩
      have r6 := r6.below hcb r6.lt
      have r7 := r7.below hcb r7.lt
      refine hK.out _ _ (hS.on hcb) fun hS => ?_
      try simp only [Act.put, List.getElem_toArray, List.getElem_cons_zero, List.getElem_cons_succ, List.setIfInBounds_toArray, List.set_cons_zero, List.set_cons_succ]
      clear hK hcb
      refine wpAnyH_ready (rs := [5]) (by kernel_rfl) (by simp) ?_
      refine AllReadyH.cons rfl (fun K hK => ?_) AllReadyH.nil
      go_simp
      go_at_call 11
      refine (seal_any y q hq _ hy.1 hy.2).mono ?_
      rw [HB.out]; rintro e wc ⟨rfl, hcb⟩
      have r6 := r6.below hcb r6.lt
      have r7 := r7.below hcb r7.lt
      refine hK.out _ _ (hS.on hcb) fun hS => ?_
      try simp only [Act.put, List.getElem_toArray, List.getElem_cons_zero, List.getElem_cons_succ, List.setIfInBounds_toArray, List.set_cons_zero, List.set_cons_succ]
      clear hK hcb
      have ne : g6 ≠ g7 := Nat.ne_of_lt l67
      refine wpAnyH_ready (rs := [8]) (by kernel_rfl) (by simp) ?_
      refine AllReadyH.cons rfl (fun K hK => step_store rfl 31 (.tmp 11) (.tmp 20) rfl g6 A rfl rfl 31 (bs (zs 256)) r6 256 size31 (by rw [bs_size, zs_length]) hAl (hK.out _ _ (hS.set g6 l6 _) fun hS => ?_)) AllReadyH.nil
      try simp only [Act.put, List.getElem_toArray, List.getElem_cons_zero, List.getElem_cons_succ, List.setIfInBounds_toArray, List.set_cons_zero, List.set_cons_succ]
      have r6' := r6.set (bs A)
      have r7' := r7.other (Ne.symm ne) (bs A)
      refine wpAnyH_ready (rs := [9]) (by kernel_rfl) (by simp) ?_
      refine AllReadyH.cons rfl (fun K hK => step_store rfl 31 (.tmp 12) (.tmp 23) rfl g7 B rfl rfl 31 (bs (zs 256)) r7' 256 size31 (by rw [bs_size, zs_length]) hBl (hK.out _ _ (hS.set g7 l7 _) fun hS => ?_)) AllReadyH.nil
      try simp only [Act.put, List.getElem_toArray, List.getElem_cons_zero, List.getElem_cons_succ, List.setIfInBounds_toArray, List.set_cons_zero, List.set_cons_succ]
      refine wpAnyH_done (by kernel_rfl) ?_ _
      go_wp2_with fail
      go_meet
      case rel => exact ⟨g6, g7, rfl, rfl, r6'.other ne _, r7'.set _, ne, l6, l7, hS⟩
    refine AllReadyH.cons rfl (fun K hK => ?_) AllReadyH.nil
    refine step_alloc rfl 31 rfl (bs (zs 256)) (zero31 _) (hK.out _ _ (hS.alloc _) fun hS' => ?_)
    try simp only [Act.put, List.getElem_toArray, List.getElem_cons_zero, List.getElem_cons_succ, List.setIfInBounds_toArray, List.set_cons_zero, List.set_cons_succ]
    have r7 := Row.new w1.drew (bs (zs 256)) 31
    have l7 := hS.2.1.lt
    obtain ⟨g7, hg⟩ : ∃ g, g = (w1.drew).heap.size := ⟨_, rfl⟩
    rw [← hg] at r7 l7 ⊢
    clear hK hS hg
    generalize (w1.drew).alloc (.cells (bs (zs 256)) 31) = w7 at r7 hS' ⊢
    have hS := hS'
    clear hS'
    refine wpAnyH_ready (rs := [2, 6]) (by kernel_rfl) (by simp) ?_
    refine AllReadyH.cons rfl (fun K hK => ?_) ?_
    · go_simp
      go_at_call 11
      refine (seal_any x p hp _ hx.1 hx.2).mono ?_
      rw [HA.out]; rintro e wc ⟨rfl, hcb⟩
      have r7 := r7.below hcb r7.lt
      refine hK.out _ _ (hS.on hcb) fun hS => ?_
      try simp only [Act.put, List.getElem_toArray, List.getElem_cons_zero, List.getElem_cons_succ, List.setIfInBounds_toArray, List.set_cons_zero, List.set_cons_succ]
      clear hK hcb
      refine wpAnyH_ready (rs := [5, 6]) (by kernel_rfl) (by simp) ?_
      refine AllReadyH.cons rfl (fun K hK => ?_) ?_
      · go_simp
        go_at_call 11
        refine (seal_any y q hq _ hy.1 hy.2).mono ?_
        rw [HB.out]; rintro e wc ⟨rfl, hcb⟩
        have r7 := r7.below hcb r7.lt
        refine hK.out _ _ (hS.on hcb) fun hS => ?_
        try simp only [Act.put, List.getElem_toArray, List.getElem_cons_zero, List.getElem_cons_succ, List.setIfInBounds_toArray, List.set_cons_zero, List.set_cons_succ]
        clear hK hcb
        refine wpAnyH_ready (rs := [6]) (by kernel_rfl) (by simp) ?_
        refine AllReadyH.cons rfl (fun K hK => ?_) AllReadyH.nil
        refine step_alloc rfl 31 rfl (bs (zs 256)) (zero31 _) (hK.out _ _ (hS.alloc _) fun hS' => ?_)
        try simp only [Act.put, List.getElem_toArray, List.getElem_cons_zero, List.getElem_cons_succ, List.setIfInBounds_toArray, List.set_cons_zero, List.set_cons_succ]
        have r6 := Row.new wc (bs (zs 256)) 31
        have l6 := hS.2.1.lt
        have l67 := r7.lt
        have r7' := r7.alloc (.cells (bs (zs 256)) 31)
        obtain ⟨g6, hg⟩ : ∃ g, g = (wc).heap.size := ⟨_, rfl⟩
        rw [← hg] at r6 l6 l67 ⊢
        clear hK hS hg
        generalize (wc).alloc (.cells (bs (zs 256)) 31) = w6 at r6 r7' hS' ⊢
        have hS := hS'
        clear hS'
        clear r7
        have r7 := r7'
        have ne : g6 ≠ g7 := Nat.ne_of_gt l67
        refine wpAnyH_ready (rs := [8]) (by kernel_rfl) (by simp) ?_
        refine AllReadyH.cons rfl (fun K hK => step_store rfl 31 (.tmp 11) (.tmp 20) rfl g6 A rfl rfl 31 (bs (zs 256)) r6 256 size31 (by rw [bs_size, zs_length]) hAl (hK.out _ _ (hS.set g6 l6 _) fun hS => ?_)) AllReadyH.nil
        try simp only [Act.put, List.getElem_toArray, List.getElem_cons_zero, List.getElem_cons_succ, List.setIfInBounds_toArray, List.set_cons_zero, List.set_cons_succ]
        have r6' := r6.set (bs A)
        have r7' := r7.other (Ne.symm ne) (bs A)
        refine wpAnyH_ready (rs := [9]) (by kernel_rfl) (by simp) ?_
        refine AllReadyH.cons rfl (fun K hK => step_store rfl 31 (.tmp 12) (.tmp 23) rfl g7 B rfl rfl 31 (bs (zs 256)) r7' 256 size31 (by rw [bs_size, zs_length]) hBl (hK.out _ _ (hS.set g7 l7 _) fun hS => ?_)) AllReadyH.nil
        try simp only [Act.put, List.getElem_toArray, List.getElem_cons_zero, List.getElem_cons_succ, List.setIfInBounds_toArray, List.set_cons_zero, List.set_cons_succ]
        refine wpAnyH_done (by kernel_rfl) ?_ _
        go_wp2_with fail
        go_meet
        case rel => exact ⟨g6, g7, rfl, rfl, r6'.other ne _, r7'.set _, ne, l6, l7, hS⟩
      refine AllReadyH.cons rfl (fun K hK => ?_) AllReadyH.nil
      refine step_alloc rfl 31 rfl (bs (zs 256)) (zero31 _) (hK.out _ _ (hS.alloc _) fun hS' => ?_)
      try simp only [Act.put, List.getElem_toArray, List.getElem_cons_zero, List.getElem_cons_succ, List.setIfInBounds_toArray, List.set_cons_zero, List.set_cons_succ]
      have r6 := Row.new wc (bs (zs 256)) 31
      have l6 := hS.2.1.lt
      have l67 := r7.lt
      have r7' := r7.alloc (.cells (bs (zs 256)) 31)
      obtain ⟨g6, hg⟩ : ∃ g, g = (wc).heap.size := ⟨_, rfl⟩
      rw [← hg] at r6 l6 l67 ⊢
      clear hK hS hg
      generalize (wc).alloc (.cells (bs (zs 256)) 31) = w6 at r6 r7' hS' ⊢
      have hS := hS'
      clear hS'
      clear r7
      have r7 := r7'
      refine wpAnyH_ready (rs := [5]) (by kernel_rfl) (by simp) ?_
      refine AllReadyH.cons rfl (fun K hK => ?_) AllReadyH.nil
      go_simp
      go_at_call 11
      refine (seal_any y q hq _ hy.1 hy.2).mono ?_
      rw [HB.out]; rintro e wc ⟨rfl, hcb⟩
      have r6 := r6.below hcb r6.lt
      have r7 := r7.below hcb r7.lt
      refine hK.out _ _ (hS.on hcb) fun hS => ?_
      try simp only [Act.put, List.getElem_toArray, List.getElem_cons_zero, List.getElem_cons_succ, List.setIfInBounds_toArray, List.set_cons_zero, List.set_cons_succ]
      clear hK hcb
      have ne : g6 ≠ g7 := Nat.ne_of_gt l67
      refine wpAnyH_ready (rs := [8]) (by kernel_rfl) (by simp) ?_
      refine AllReadyH.cons rfl (fun K hK => step_store rfl 31 (.tmp 11) (.tmp 20) rfl g6 A rfl rfl 31 (bs (zs 256)) r6 256 size31 (by rw [bs_size, zs_length]) hAl (hK.out _ _ (hS.set g6 l6 _) fun hS => ?_)) AllReadyH.nil
      try simp only [Act.put, List.getElem_toArray, List.getElem_cons_zero, List.getElem_cons_succ, List.setIfInBounds_toArray, List.set_cons_zero, List.set_cons_succ]
      have r6' := r6.set (bs A)
      have r7' := r7.other (Ne.symm ne) (bs A)
      refine wpAnyH_ready (rs := [9]) (by kernel_rfl) (by simp) ?_
      refine AllReadyH.cons rfl (fun K hK => step_store rfl 31 (.tmp 12) (.tmp 23) rfl g7 B rfl rfl 31 (bs (zs 256)) r7' 256 size31 (by rw [bs_size, zs_length]) hBl (hK.out _ _ (hS.set g7 l7 _) fun hS => ?_)) AllReadyH.nil
      try simp only [Act.put, List.getElem_toArray, List.getElem_cons_zero, List.getElem_cons_succ, List.setIfInBounds_toArray, List.set_cons_zero, List.set_cons_succ]
      refine wpAnyH_done (by kernel_rfl) ?_ _
      go_wp2_with fail
      go_meet
      case rel => exact ⟨g6, g7, rfl, rfl, r6'.other ne _, r7'.set _, ne, l6, l7, hS⟩
    refine AllReadyH.cons rfl (fun K hK => ?_) AllReadyH.nil
    refine step_alloc rfl 31 rfl (bs (zs 256)) (zero31 _) (hK.out _ _ (hS.alloc _) fun hS' => ?_)
    try simp only [Act.put, List.getElem_toArray, List.getElem_cons_zero, List.getElem_cons_succ, List.setIfInBounds_toArray, List.set_cons_zero, List.set_cons_succ]
    have r6 := Row.new w7 (bs (zs 256)) 31
    have l6 := hS.2.1.lt
    have l67 := r7.lt
    have r7' := r7.alloc (.cells (bs (zs 256)) 31)
    obtain ⟨g6, hg⟩ : ∃ g, g = (w7).heap.size := ⟨_, rfl⟩
    rw [← hg] at r6 l6 l67 ⊢
    clear hK hS hg
    generalize (w7).alloc (.cells (bs (zs 256)) 31) = w6 at r6 r7' hS' ⊢
    have hS := hS'
    clear hS'
    clear r7
    have r7 := r7'
    refine wpAnyH_ready (rs := [2]) (by kernel_rfl) (by simp) ?_
    refine AllReadyH.cons rfl (fun K hK => ?_) AllReadyH.nil
    go_simp
    go_at_call 11
    refine (seal_any x p hp _ hx.1 hx.2).mono ?_
    rw [HA.out]; rintro e wc ⟨rfl, hcb⟩
    have r6 := r6.below hcb r6.lt
    have r7 := r7.below hcb r7.lt
    refine hK.out _ _ (hS.on hcb) fun hS => ?_
    try simp only [Act.put, List.getElem_toArray, List.getElem_cons_zero, List.getElem_cons_succ, List.setIfInBounds_toArray, List.set_cons_zero, List.set_cons_succ]
    clear hK hcb
    refine wpAnyH_ready (rs := [5]) (by kernel_rfl) (by simp) ?_
    refine AllReadyH.cons rfl (fun K hK => ?_) AllReadyH.nil
    go_simp
    go_at_call 11
    refine (seal_any y q hq _ hy.1 hy.2).mono ?_
    rw [HB.out]; rintro e wc ⟨rfl, hcb⟩
    have r6 := r6.below hcb r6.lt
    have r7 := r7.below hcb r7.lt
    refine hK.out _ _ (hS.on hcb) fun hS => ?_
    try simp only [Act.put, List.getElem_toArray, List.getElem_cons_zero, List.getElem_cons_succ, List.setIfInBounds_toArray, List.set_cons_zero, List.set_cons_succ]
    clear hK hcb
    have ne : g6 ≠ g7 := Nat.ne_of_gt l67
    refine wpAnyH_ready (rs := [8]) (by kernel_rfl) (by simp) ?_
    refine AllReadyH.cons rfl (fun K hK => step_store rfl 31 (.tmp 11) (.tmp 20) rfl g6 A rfl rfl 31 (bs (zs 256)) r6 256 size31 (by rw [bs_size, zs_length]) hAl (hK.out _ _ (hS.set g6 l6 _) fun hS => ?_)) AllReadyH.nil
    try simp only [Act.put, List.getElem_toArray, List.getElem_cons_zero, List.getElem_cons_succ, List.setIfInBounds_toArray, List.set_cons_zero, List.set_cons_succ]
    have r6' := r6.set (bs A)
    have r7' := r7.other (Ne.symm ne) (bs A)
    refine wpAnyH_ready (rs := [9]) (by kernel_rfl) (by simp) ?_
    refine AllReadyH.cons rfl (fun K hK => step_store rfl 31 (.tmp 12) (.tmp 23) rfl g7 B rfl rfl 31 (bs (zs 256)) r7' 256 size31 (by rw [bs_size, zs_length]) hBl (hK.out _ _ (hS.set g7 l7 _) fun hS => ?_)) AllReadyH.nil
    try simp only [Act.put, List.getElem_toArray, List.getElem_cons_zero, List.getElem_cons_succ, List.setIfInBounds_toArray, List.set_cons_zero, List.set_cons_succ]
    refine wpAnyH_done (by kernel_rfl) ?_ _
    go_wp2_with fail
    go_meet
    case rel => exact ⟨g6, g7, rfl, rfl, r6'.other ne _, r7'.set _, ne, l6, l7, hS⟩
  case rest =>
    obtain ⟨g6, g7, rfl, rfl, r6, r7, ne, l6, l7, hS⟩ := hcut
    have l6' := r6.lt
    have l7' := r7.lt
    go_wp2_with (first
      | (refine load_row rfl 31 (.tmp 11) rfl g6 rfl 31 (bs A) r6 256 5 Try.underlying31 size31 (by rw [bs_size, hAl]) ?_)
      | (refine store_row rfl 31 (.tmp 13) (.tmp 24) rfl wc.heap.size A rfl rfl 31 _ (Row.new wc (bs (zs 256)) 31) 256 size31 (by rw [bs_size, zs_length]) hAl ?_))
    have q6 := (r6.alloc (.cells (bs (zs 256)) 31)).other (Nat.ne_of_lt r6.lt) (bs A)
    have q7 := (r7.alloc (.cells (bs (zs 256)) 31)).other (Nat.ne_of_lt r7.lt) (bs A)
    have qm := (Row.new wc (bs (zs 256)) 31).set (bs A)
    have qS := (hS.alloc (.cells (bs (zs 256)) 31)).set wc.heap.size hS.2.1.lt (bs A)
    have lm := hS.2.1.lt
    obtain ⟨gm, hgm⟩ : ∃ g, g = wc.heap.size := ⟨_, rfl⟩
    rw [← hgm] at q6 q7 qm qS l6' l7' lm ⊢
    generalize (wc.alloc (.cells (bs (zs 256)) 31)).setRow gm (bs A) = wd at q6 q7 qm qS ⊢
    clear hgm hS r6 r7
    go_loopw [14] (fun i wr => ∃ k : Nat, k ≤ 4 ∧ i = .int .i64 k ∧ Row wr g6 (bs A) 31 ∧ Row wr g7 (bs B) 31 ∧ Row wr gm (bs (mix c A B k)) 31 ∧ KeptT w p q wr) (fun i _ => 4 - (intOf i).toNat)
    case atStart => exact ⟨0, by omega, rfl, q6, q7, qm, qS⟩
    case round =>
      clear q6 q7 qm qS
      obtain ⟨k, hk, rfl, m6, m7, m0, mS⟩ := hrel
      by_cases hlt : k < 4
      · have hMl := mix_length c A B hAl hBl k (by omega)
        have hNl := mix_length c A B hAl hBl (k + 1) (by omega)
        have hbit := bit_code c k hc
        have hmx : mix c A B (k + 1) = if c / 2 ^ k % 2 = 1 then lay (mix c A B k) k (cut B k) else mix c A B k := rfl
        have hCl := cut_length B k hBl hlt
        obtain ⟨C, HC⟩ : ∃ C, Hid (cut B k = C) := ⟨_, rfl⟩
        obtain ⟨M, HM⟩ : ∃ M, Hid (mix c A B k = M) := ⟨_, rfl⟩
        obtain ⟨N, HN0⟩ : ∃ N, Hid (mix c A B (k + 1) = N) := ⟨_, rfl⟩
        rw [HM.out] at hMl m0
        rw [HN0.out] at hNl
        rw [HC.out] at hCl
        rw [HN0.out, HM.out, HC.out] at hmx
        by_cases hb : c / 2 ^ k % 2 = 1
        · rw [if_pos hb] at hmx hbit
          have HN : Hid (lay M k C = N) := hmx.symm
          clear hmx hb
          go_wp2
          refine wp_region_any (by kernel_rfl) ?_
          change wpAny _ _ _ _ _ _ _ (World.drew _)
          have m0 : Row wr.drew gm (bs M) 31 := m0
          have m6 : Row wr.drew g6 (bs A) 31 := m6
          have m7 : Row wr.drew g7 (bs B) 31 := m7
          have mS : KeptT w p q wr.drew := ⟨mS.1, mS.2.1, mS.2.2.drew⟩
          refine wpAny_take (i := 1) (v := .int .i64 k) rfl (by kernel_rfl) (by kernel_rfl) (by kernel_rfl) (fun _ _ _ h => h) (Or.inl ⟨by rfl, fun w => by rfl⟩) ?_
          try simp only [Act.put, List.getElem_toArray, List.getElem_cons_zero, List.getElem_cons_succ, List.setIfInBounds_toArray, List.set_cons_zero, List.set_cons_succ]
          refine wpAny_take (i := 3) (v := .int .i64 k) rfl (by kernel_rfl) (by kernel_rfl) (by kernel_rfl) (fun _ _ _ h => h) (Or.inl ⟨by rfl, fun w => by rfl⟩) ?_
          try simp only [Act.put, List.getElem_toArray, List.getElem_cons_zero, List.getElem_cons_succ, List.setIfInBounds_toArray, List.set_cons_zero, List.set_cons_succ]
          refine wpAny_ready (rs := [0, 2]) (by kernel_rfl) (by simp) ?_
          refine AllReady.cons rfl (fun K hK => step_load rfl 31 (.tmp 13) rfl gm rfl 31 (bs M) m0 256 5 Try.underlying31 size31 (by rw [bs_size, hMl]) (hK _ _ ?_)) ?_
          · try simp only [Act.put, List.getElem_toArray, List.getElem_cons_zero, List.getElem_cons_succ, List.setIfInBounds_toArray, List.set_cons_zero, List.set_cons_succ]
            refine wpAny_ready (rs := [2]) (by kernel_rfl) (by simp) ?_
            refine AllReady.cons rfl (fun K hK => step_load rfl 31 (.tmp 12) rfl g7 rfl 31 (bs B) m7 256 5 Try.underlying31 size31 (by rw [bs_size, hBl]) (hK _ _ ?_)) AllReady.nil
            try simp only [Act.put, List.getElem_toArray, List.getElem_cons_zero, List.getElem_cons_succ, List.setIfInBounds_toArray, List.set_cons_zero, List.set_cons_succ]
            refine wpAny_ready (rs := [4]) (by kernel_rfl) (by simp) ?_
            refine AllReady.cons rfl (fun K hK => ?_) AllReady.nil
            go_simp
            go_at_call 15
            refine (cut_at B hBl _ k hlt rfl C HC.out _).mono ?_
            rintro e wc ⟨rfl, hcb⟩
            refine hK _ _ ?_
            try simp only [Act.put, List.getElem_toArray, List.getElem_cons_zero, List.getElem_cons_succ, List.setIfInBounds_toArray, List.set_cons_zero, List.set_cons_succ]
            clear hK
            have m0 := m0.below hcb m0.lt
            have m6 := m6.below hcb m6.lt
            have m7 := m7.below hcb m7.lt
            have mS := mS.on hcb
            refine wpAny_ready (rs := [5]) (by kernel_rfl) (by simp) ?_
            refine AllReady.cons rfl (fun K hK => ?_) AllReady.nil
            go_simp
            go_at_call 17
            refine (lay_at M C hMl hCl _ k hlt rfl N HN.out _).mono ?_
            rintro e wc ⟨rfl, hcb⟩
            refine hK _ _ ?_
            try simp only [Act.put, List.getElem_toArray, List.getElem_cons_zero, List.getElem_cons_succ, List.setIfInBounds_toArray, List.set_cons_zero, List.set_cons_succ]
            clear hK
            have m0 := m0.below hcb m0.lt
            have m6 := m6.below hcb m6.lt
            have m7 := m7.below hcb m7.lt
            have mS := mS.on hcb
            refine wpAny_ready (rs := [6]) (by kernel_rfl) (by simp) ?_
            refine AllReady.cons rfl (fun K hK => step_store rfl 31 (.tmp 13) (.tmp 39) rfl gm N rfl rfl 31 (bs M) m0 256 size31 (by rw [bs_size, hMl]) hNl (hK _ _ ?_)) AllReady.nil
            try simp only [Act.put, List.getElem_toArray, List.getElem_cons_zero, List.getElem_cons_succ, List.setIfInBounds_toArray, List.set_cons_zero, List.set_cons_succ]
            refine wpAny_done (by kernel_rfl) ?_ _
            have z0 := m0.set (bs N)
            have z6 := m6.other (show g6 ≠ gm by omega) (bs N)
            have z7 := m7.other (show g7 ≠ gm by omega) (bs N)
            have zS := mS.set gm lm (bs N)
            go_wp2
            go_roundw
            case rel => exact ⟨k + 1, by omega, by go_num, z6, z7, by rw [HN0.out]; exact z0, zS⟩
            case measure => simp [intOf]; omega
          refine AllReady.cons rfl (fun K hK => step_load rfl 31 (.tmp 12) rfl g7 rfl 31 (bs B) m7 256 5 Try.underlying31 size31 (by rw [bs_size, hBl]) (hK _ _ ?_)) AllReady.nil
          try simp only [Act.put, List.getElem_toArray, List.getElem_cons_zero, List.getElem_cons_succ, List.setIfInBounds_toArray, List.set_cons_zero, List.set_cons_succ]
          refine wpAny_ready (rs := [0, 4]) (by kernel_rfl) (by simp) ?_
          refine AllReady.cons rfl (fun K hK => step_load rfl 31 (.tmp 13) rfl gm rfl 31 (bs M) m0 256 5 Try.underlying31 size31 (by rw [bs_size, hMl]) (hK _ _ ?_)) ?_
          · try simp only [Act.put, List.getElem_toArray, List.getElem_cons_zero, List.getElem_cons_succ, List.setIfInBounds_toArray, List.set_cons_zero, List.set_cons_succ]
            refine wpAny_ready (rs := [4]) (by kernel_rfl) (by simp) ?_
            refine AllReady.cons rfl (fun K hK => ?_) AllReady.nil
            go_simp
            go_at_call 15
            refine (cut_at B hBl _ k hlt rfl C HC.out _).mono ?_
            rintro e wc ⟨rfl, hcb⟩
            refine hK _ _ ?_
            try simp only [Act.put, List.getElem_toArray, List.getElem_cons_zero, List.getElem_cons_succ, List.setIfInBounds_toArray, List.set_cons_zero, List.set_cons_succ]
            clear hK
            have m0 := m0.below hcb m0.lt
            have m6 := m6.below hcb m6.lt
            have m7 := m7.below hcb m7.lt
            have mS := mS.on hcb
            refine wpAny_ready (rs := [5]) (by kernel_rfl) (by simp) ?_
            refine AllReady.cons rfl (fun K hK => ?_) AllReady.nil
            go_simp
            go_at_call 17
            refine (lay_at M C hMl hCl _ k hlt rfl N HN.out _).mono ?_
            rintro e wc ⟨rfl, hcb⟩
            refine hK _ _ ?_
            try simp only [Act.put, List.getElem_toArray, List.getElem_cons_zero, List.getElem_cons_succ, List.setIfInBounds_toArray, List.set_cons_zero, List.set_cons_succ]
            clear hK
            have m0 := m0.below hcb m0.lt
            have m6 := m6.below hcb m6.lt
            have m7 := m7.below hcb m7.lt
            have mS := mS.on hcb
            refine wpAny_ready (rs := [6]) (by kernel_rfl) (by simp) ?_
            refine AllReady.cons rfl (fun K hK => step_store rfl 31 (.tmp 13) (.tmp 39) rfl gm N rfl rfl 31 (bs M) m0 256 size31 (by rw [bs_size, hMl]) hNl (hK _ _ ?_)) AllReady.nil
            try simp only [Act.put, List.getElem_toArray, List.getElem_cons_zero, List.getElem_cons_succ, List.setIfInBounds_toArray, List.set_cons_zero, List.set_cons_succ]
            refine wpAny_done (by kernel_rfl) ?_ _
            have z0 := m0.set (bs N)
            have z6 := m6.other (show g6 ≠ gm by omega) (bs N)
            have z7 := m7.other (show g7 ≠ gm by omega) (bs N)
            have zS := mS.set gm lm (bs N)
            go_wp2
            go_roundw
            case rel => exact ⟨k + 1, by omega, by go_num, z6, z7, by rw [HN0.out]; exact z0, zS⟩
            case measure => simp [intOf]; omega
          refine AllReady.cons rfl (fun K hK => ?_) AllReady.nil
          go_simp
          go_at_call 15
          refine (cut_at B hBl _ k hlt rfl C HC.out _).mono ?_
          rintro e wc ⟨rfl, hcb⟩
          refine hK _ _ ?_
          try simp only [Act.put, List.getElem_toArray, List.getElem_cons_zero, List.getElem_cons_succ, List.setIfInBounds_toArray, List.set_cons_zero, List.set_cons_succ]
          clear hK
          have m0 := m0.below hcb m0.lt
          have m6 := m6.below hcb m6.lt
          have m7 := m7.below hcb m7.lt
          have mS := mS.on hcb
          refine wpAny_ready (rs := [0]) (by kernel_rfl) (by simp) ?_
          refine AllReady.cons rfl (fun K hK => step_load rfl 31 (.tmp 13) rfl gm rfl 31 (bs M) m0 256 5 Try.underlying31 size31 (by rw [bs_size, hMl]) (hK _ _ ?_)) AllReady.nil
          try simp only [Act.put, List.getElem_toArray, List.getElem_cons_zero, List.getElem_cons_succ, List.setIfInBounds_toArray, List.set_cons_zero, List.set_cons_succ]
          refine wpAny_ready (rs := [5]) (by kernel_rfl) (by simp) ?_
          refine AllReady.cons rfl (fun K hK => ?_) AllReady.nil
          go_simp
          go_at_call 17
          refine (lay_at M C hMl hCl _ k hlt rfl N HN.out _).mono ?_
          rintro e wc ⟨rfl, hcb⟩
          refine hK _ _ ?_
          try simp only [Act.put, List.getElem_toArray, List.getElem_cons_zero, List.getElem_cons_succ, List.setIfInBounds_toArray, List.set_cons_zero, List.set_cons_succ]
          clear hK
          have m0 := m0.below hcb m0.lt
          have m6 := m6.below hcb m6.lt
          have m7 := m7.below hcb m7.lt
          have mS := mS.on hcb
          refine wpAny_ready (rs := [6]) (by kernel_rfl) (by simp) ?_
          refine AllReady.cons rfl (fun K hK => step_store rfl 31 (.tmp 13) (.tmp 39) rfl gm N rfl rfl 31 (bs M) m0 256 size31 (by rw [bs_size, hMl]) hNl (hK _ _ ?_)) AllReady.nil
          try simp only [Act.put, List.getElem_toArray, List.getElem_cons_zero, List.getElem_cons_succ, List.setIfInBounds_toArray, List.set_cons_zero, List.set_cons_succ]
          refine wpAny_done (by kernel_rfl) ?_ _
          have z0 := m0.set (bs N)
          have z6 := m6.other (show g6 ≠ gm by omega) (bs N)
          have z7 := m7.other (show g7 ≠ gm by omega) (bs N)
          have zS := mS.set gm lm (bs N)
          go_wp2
          go_roundw
          case rel => exact ⟨k + 1, by omega, by go_num, z6, z7, by rw [HN0.out]; exact z0, zS⟩
          case measure => simp [intOf]; omega
        · rw [if_neg hb] at hmx hbit
          subst hmx
          go_wp2
          go_roundw
          case rel => exact ⟨k + 1, by omega, by go_num, m6, m7, by rw [HN0.out]; exact m0, mS⟩
          case measure => simp [intOf]; omega
      · have e4 : k = 4 := by omega
        subst e4
        have hMl := mix_length c A B hAl hBl 4 (by omega)
        have hMy := mix_bytes c A B hAl hBl hAy hBy
        have hm16 : (c : Int).tmod 16 = ((c % 16 : Nat) : Int) := by rw [Int.tmod_eq_emod_of_nonneg (by omega)]; omega
        have hmn := mix_none c A B hAl hBl
        have hma := mix_all c A B hAl hBl
        have HX := HMIX.out
        obtain ⟨M4, HM4⟩ : ∃ M, Hid (mix c A B 4 = M) := ⟨_, rfl⟩
        rw [HM4.out] at hMl hMy hmn hma HX m0
        have HX := show Hid _ from HX
        have HMN := show Hid _ from hmn
        have HMA := show Hid _ from hma
        clear hmn hma
        by_cases c0 : c % 16 = 0
        · have hM4 := HMN.out c0
          subst hM4
          have he : ∀ w, (Op.equalIn 10000 29 (.agg (bs p)) (.agg (bs p))).run Try.prog w = .ok true w := fun w => by rw [equal29 p p hp hp w]; simp
          have he' : ∀ w, (Op.equalIn 10000 31 (.agg (bs M4)) (.agg (bs M4))).run Try.prog w = .ok true w := fun w => by rw [equal31 M4 M4 hMl hMl w]; simp
          rw [c0] at hm16
          go_wp2_with (first
          | (refine load_row rfl 31 (.tmp 13) rfl gm rfl 31 (bs M4) m0 256 5 Try.underlying31 size31 (by rw [bs_size, hMl]) ?_)
          | (go_at_call 13; refine (open_any M4 hMl hMy _).mono ?_; rw [HOA.out]; rintro e wo ⟨rfl, hob⟩
             have n0 := m0.below hob m0.lt
             have n6 := m6.below hob m6.lt
             have n7 := m7.below hob m7.lt
             have nS := mS.on hob
             clear m0 m6 m7 mS hob)
          | (refine store_row rfl 29 (.tmp 16) (.tmp 44) rfl wo.heap.size p rfl rfl 29 _ (Row.new wo (bs (zs 224)) 29) 224 size29 (by rw [bs_size, zs_length]) hp ?_
             have o0 := (n0.alloc (.cells (bs (zs 224)) 29)).other (Nat.ne_of_lt n0.lt) (bs p)
             have o6 := (n6.alloc (.cells (bs (zs 224)) 29)).other (Nat.ne_of_lt n6.lt) (bs p)
             have o7 := (n7.alloc (.cells (bs (zs 224)) 29)).other (Nat.ne_of_lt n7.lt) (bs p)
             have oY := (Row.new wo (bs (zs 224)) 29).set (bs p)
             have oS := (nS.alloc (.cells (bs (zs 224)) 29)).set wo.heap.size nS.2.1.lt (bs p)
             generalize (wo.alloc (.cells (bs (zs 224)) 29)).setRow wo.heap.size (bs p) = wz at o0 o6 o7 oY oS ⊢
             clear n0 n6 n7 nS)
          | (refine load_row_g rfl 29 (.tmp 16) rfl wo.heap.size rfl 29 (bs p) oY 224 5 Try.underlying29 size29 (by rw [bs_size, hp]) ?_)
          | (refine load_row_g rfl 29 (.tmp 7) rfl w.heap.size rfl 29 (bs p) oS.1 224 5 Try.underlying29 size29 (by rw [bs_size, hp]) ?_)
          | (refine load_row_g rfl 31 (.tmp 13) rfl gm rfl 31 (bs M4) o0 256 5 Try.underlying31 size31 (by rw [bs_size, hMl]) ?_)
          | (refine load_row_g rfl 31 (.tmp 11) rfl g6 rfl 31 (bs M4) o6 256 5 Try.underlying31 size31 (by rw [bs_size, hMl]) ?_))
          go_ret
          exact ⟨by simp, oS.2.2⟩
        · by_cases c15 : c % 16 = 15
          · have hM4 := HMA.out c15
            subst hM4
            have he : ∀ w, (Op.equalIn 10000 29 (.agg (bs q)) (.agg (bs q))).run Try.prog w = .ok true w := fun w => by rw [equal29 q q hq hq w]; simp
            have he' : ∀ w, (Op.equalIn 10000 31 (.agg (bs M4)) (.agg (bs M4))).run Try.prog w = .ok true w := fun w => by rw [equal31 M4 M4 hMl hMl w]; simp
            rw [c15] at hm16
            go_wp2_with (first
          | (refine load_row rfl 31 (.tmp 13) rfl gm rfl 31 (bs M4) m0 256 5 Try.underlying31 size31 (by rw [bs_size, hMl]) ?_)
          | (go_at_call 13; refine (open_any M4 hMl hMy _).mono ?_; rw [HOB.out]; rintro e wo ⟨rfl, hob⟩
             have n0 := m0.below hob m0.lt
             have n6 := m6.below hob m6.lt
             have n7 := m7.below hob m7.lt
             have nS := mS.on hob
             clear m0 m6 m7 mS hob)
          | (refine store_row rfl 29 (.tmp 16) (.tmp 44) rfl wo.heap.size q rfl rfl 29 _ (Row.new wo (bs (zs 224)) 29) 224 size29 (by rw [bs_size, zs_length]) hq ?_
             have o0 := (n0.alloc (.cells (bs (zs 224)) 29)).other (Nat.ne_of_lt n0.lt) (bs q)
             have o6 := (n6.alloc (.cells (bs (zs 224)) 29)).other (Nat.ne_of_lt n6.lt) (bs q)
             have o7 := (n7.alloc (.cells (bs (zs 224)) 29)).other (Nat.ne_of_lt n7.lt) (bs q)
             have oY := (Row.new wo (bs (zs 224)) 29).set (bs q)
             have oS := (nS.alloc (.cells (bs (zs 224)) 29)).set wo.heap.size nS.2.1.lt (bs q)
             generalize (wo.alloc (.cells (bs (zs 224)) 29)).setRow wo.heap.size (bs q) = wz at o0 o6 o7 oY oS ⊢
             clear n0 n6 n7 nS)
          | (refine load_row_g rfl 29 (.tmp 16) rfl wo.heap.size rfl 29 (bs q) oY 224 5 Try.underlying29 size29 (by rw [bs_size, hq]) ?_)
          | (refine load_row_g rfl 29 (.tmp 8) rfl (w.heap.size + 1) rfl 29 (bs q) oS.2.1 224 5 Try.underlying29 size29 (by rw [bs_size, hq]) ?_)
          | (refine load_row_g rfl 31 (.tmp 13) rfl gm rfl 31 (bs M4) o0 256 5 Try.underlying31 size31 (by rw [bs_size, hMl]) ?_)
          | (refine load_row_g rfl 31 (.tmp 12) rfl g7 rfl 31 (bs M4) o7 256 5 Try.underlying31 size31 (by rw [bs_size, hMl]) ?_))
            go_ret
            exact ⟨by simp, oS.2.2⟩
          · have c0' : (((c % 16 : Nat) : Int) == 0) = false := by simp; omega
            have c15' : (((c % 16 : Nat) : Int) == 15) = false := by simp; omega
            obtain ⟨k1, k2⟩ := HX.out c0 c15
            generalize ((c % 16 : Nat) : Int) = d at hm16 c0' c15'
            by_cases exy : x = y
            · obtain ⟨Y, hoY, hYl⟩ := k1 exy
              have HOY := show Hid _ from hoY
              clear hoY k1 k2
              go_wp2_with (first
          | (refine load_row rfl 31 (.tmp 13) rfl gm rfl 31 (bs M4) m0 256 5 Try.underlying31 size31 (by rw [bs_size, hMl]) ?_)
          | (go_at_call 13; refine (open_any M4 hMl hMy _).mono ?_; rw [HOY.out]; rintro e wo ⟨rfl, hob⟩
             have n0 := m0.below hob m0.lt
             have n6 := m6.below hob m6.lt
             have n7 := m7.below hob m7.lt
             have nS := mS.on hob
             clear m0 m6 m7 mS hob)
          | (refine store_row rfl 29 (.tmp 16) (.tmp 44) rfl wo.heap.size Y rfl rfl 29 _ (Row.new wo (bs (zs 224)) 29) 224 size29 (by rw [bs_size, zs_length]) hYl ?_
             have o0 := (n0.alloc (.cells (bs (zs 224)) 29)).other (Nat.ne_of_lt n0.lt) (bs Y)
             have o6 := (n6.alloc (.cells (bs (zs 224)) 29)).other (Nat.ne_of_lt n6.lt) (bs Y)
             have o7 := (n7.alloc (.cells (bs (zs 224)) 29)).other (Nat.ne_of_lt n7.lt) (bs Y)
             have oY := (Row.new wo (bs (zs 224)) 29).set (bs Y)
             have oS := (nS.alloc (.cells (bs (zs 224)) 29)).set wo.heap.size nS.2.1.lt (bs Y)
             generalize (wo.alloc (.cells (bs (zs 224)) 29)).setRow wo.heap.size (bs Y) = wz at o0 o6 o7 oY oS ⊢
             clear n0 n6 n7 nS)
)
              go_ret
              exact ⟨by simp, oS.2.2⟩
            · have hoY := k2 exy
              have HOY := show Hid _ from hoY
              clear hoY k1 k2
              have he : ∀ w, (Op.equalIn 10000 29 (.agg (bs (zs 224))) (.agg (bs (zs 224)))).run Try.prog w = .ok true w := fun w => by rw [equal29 _ _ (zs_length _) (zs_length _) w]; simp
              have exy' : (x == y) = false := by simp; exact exy
              go_wp2_with (first
          | (refine load_row rfl 31 (.tmp 13) rfl gm rfl 31 (bs M4) m0 256 5 Try.underlying31 size31 (by rw [bs_size, hMl]) ?_)
          | (go_at_call 13; refine (open_any M4 hMl hMy _).mono ?_; rw [HOY.out]; rintro e wo ⟨rfl, hob⟩
             have n0 := m0.below hob m0.lt
             have n6 := m6.below hob m6.lt
             have n7 := m7.below hob m7.lt
             have nS := mS.on hob
             clear m0 m6 m7 mS hob)
          | (refine store_row rfl 29 (.tmp 16) (.tmp 44) rfl wo.heap.size (zs 224) rfl rfl 29 _ (Row.new wo (bs (zs 224)) 29) 224 size29 (by rw [bs_size, zs_length]) (zs_length _) ?_
             have o0 := (n0.alloc (.cells (bs (zs 224)) 29)).other (Nat.ne_of_lt n0.lt) (bs (zs 224))
             have o6 := (n6.alloc (.cells (bs (zs 224)) 29)).other (Nat.ne_of_lt n6.lt) (bs (zs 224))
             have o7 := (n7.alloc (.cells (bs (zs 224)) 29)).other (Nat.ne_of_lt n7.lt) (bs (zs 224))
             have oY := (Row.new wo (bs (zs 224)) 29).set (bs (zs 224))
             have oS := (nS.alloc (.cells (bs (zs 224)) 29)).set wo.heap.size nS.2.1.lt (bs (zs 224))
             generalize (wo.alloc (.cells (bs (zs 224)) 29)).setRow wo.heap.size (bs (zs 224)) = wz at o0 o6 o7 oY oS ⊢
             clear n0 n6 n7 nS)
          | (refine load_row_g rfl 29 (.tmp 16) rfl wo.heap.size rfl 29 (bs (zs 224)) oY 224 5 Try.underlying29 size29 (by rw [bs_size, zs_length]) ?_)
          | (refine build_none_g rfl 29 rfl (bs (zs 224)) built29 ?_))
              go_ret
              exact ⟨by simp, oS.2.2⟩

set_option maxRecDepth 100000 in
theorem lifted (os : Os) (started : os.Started) (H : Type) (enc : TypeId × Value → H) :
    ReturnsInHanded {} Try.checked os 8 .any (Rows.sealTornSpec.pre6 enc Try.prog Try.f8 Rows.sealTornRow.domain false) (Rows.sealTornSpec.post enc Try.prog Try.f8 false true false false) := by
  refine returnsInHanded_of_change (C := Try.checked) own started (by kernel_rfl) Try.func8
    (ChangeSpec.witness6 (enc := enc) (C := Try.checked) false ⟨#[], #[.int .u64 0, .int .u64 0, .agg (bs (zs 224)), .agg (bs (zs 224)), .int .u8 0], []⟩ 8 (by kernel_rfl) (by kernel_rfl) (by kernel_rfl) (by kernel_rfl)) ?_
  intro W base args ds gs before hval0 hW hcnd _
  have hval : ∀ (j : Nat) t v, Try.f8.params[j]? = some t → args[j]? = some v → Value.okWide Try.prog W .any base t v := hval0
  have hW' := hW
  obtain ⟨p, q, hA0, hV, rfl, hfz, hnd⟩ := hW
  have hA : DataW.TrodAll enc Try.prog W 0 (fun _ => true) true Try.f8.params.toList args.toList ds p := hA0
  rw [Try.params8] at hA hval
  obtain ⟨v0, vs0, d0, ds0, p0, q0, hargs, rfl, rfl, h0, r0⟩ := trodAll_cons hA
  obtain ⟨v1, vs1, d1, ds1, p1, q1, rfl, rfl, rfl, h1, r1⟩ := trodAll_cons r0
  obtain ⟨v2, vs2, d2, ds2, p2, q2, rfl, rfl, rfl, h2, r2⟩ := trodAll_cons r1
  obtain ⟨v3, vs3, d3, ds3, p3, q3, rfl, rfl, rfl, h3, r3⟩ := trodAll_cons r2
  obtain ⟨v4, vs4, d4, ds4, p4, q4, rfl, rfl, rfl, h4, r4⟩ := trodAll_cons r3
  obtain ⟨rfl, rfl, rfl⟩ := trodAll_nil r4
  obtain rfl : args = #[v0, v1, v2, v3, v4] := by cases args; simp_all
  obtain ⟨rfl, rfl⟩ := trodVars_none hV
  obtain ⟨a0, rfl, rfl, rfl, w0⟩ := open_int Try.underlying27 (hval 0 27 v0 rfl rfl) h0
  obtain ⟨a1, rfl, rfl, rfl, w1⟩ := open_int Try.underlying27 (hval 1 27 v1 rfl rfl) h1
  obtain ⟨a2, rfl, rfl, rfl, l2, w2⟩ := open_bytes Try.underlying29 Try.underlying5 cells5 (by kernel_rfl) (hval 2 29 v2 rfl rfl) h2
  obtain ⟨a3, rfl, rfl, rfl, l3, w3⟩ := open_bytes Try.underlying29 Try.underlying5 cells5 (by kernel_rfl) (hval 3 29 v3 rfl rfl) h3
  obtain ⟨a4, rfl, rfl, rfl, w4⟩ := open_int Try.underlying5 (hval 4 5 v4 rfl rfl) h4
  clear hA0 hval0
  simp only [List.append_nil] at hW'
  refine (walk a0 a1 a2 a3 a4 w0 w1 l2 w2 l3 w3 w4 W).mono fun e W' ⟨he, hg⟩ => ?_
  subst he
  exact ⟨_, rfl, ⟨_, _, _, [], [], [], hW', (trodAll_cons_mk (shut_bool Try.underlying4 _) trodAll_mk0), (trodAll_cons_mk (shut_int Try.underlying27 w0) (trodAll_cons_mk (shut_int Try.underlying27 w1) (trodAll_cons_mk (shut_bytes Try.underlying29 Try.underlying5 cells5 (by kernel_rfl) l2 w2) (trodAll_cons_mk (shut_bytes Try.underlying29 Try.underlying5 cells5 (by kernel_rfl) l3 w3) (trodAll_cons_mk (shut_int Try.underlying5 w4) trodAll_mk0))))), rfl,
    hg.frame _, fun h => by cases h⟩⟩

theorem over : Rows.sealTornRow.holds Try.pinned (OpenSpec.ofChange Rows.sealTornSpec) :=
  OpenClaim.holds_of_wide 8 Try.f8 rfl rfl rfl rfl rfl rfl rfl ⟨rfl, rfl, rfl, rfl, rfl⟩ rfl rfl rfl rfl rfl (by kernel_rfl) Try.func8 (by kernel_rfl)
    (of_decide_eq_true (by kernel_rfl)) (by unfold Func.isWrapper; first | (rw [if_pos (by decide +kernel)]; kernel_rfl) | (rw [if_neg (by decide +kernel)]; exact ⟨rfl, rfl⟩))
    (fun os started H enc _ => lifted os started H enc)

/-- The statement. -/
theorem proved : Rows.SealTornSaid :=
  over
#print axioms proved
end Go.Proofs.Ytdopghiconcjlab.sealTorn
