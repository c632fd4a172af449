/-
  Proved here: ring.Join: the stream that chunks hold, from the one with a number on.
-/
import Derived.Test.YtgnedbagelhcbaaJe
namespace Go.Proofs.Ytgnedbagelhcbaa
open Go.ChangeShapes Go.WideShapes Go.ChangeAt Go.RowKit Go.Lib
set_option linter.unusedVariables false
set_option linter.unusedSimpArgs false
set_option maxRecDepth 20000

set_option maxRecDepth 20000 in
set_option maxHeartbeats 8000000 in
theorem join_any (first : Int) (v : Value) (os : List Ck.O) (w : World) (ho : Ck.Olds w v os) (hn : os.length ≤ 100) (hf : 0 ≤ first ∧ first ≤ 4294967295) (hft : ∀ c ∈ os, c.Fits) (ht : tot os ≤ 1048576) :
    Calls Try.prog 39 #[.int .u32 first, v] w fun ex w' => Joined w first os ex w' := by
  obtain ⟨P, HP⟩ : ∃ P : Ending → World → Prop, Hid (P = Joined w first os) := ⟨_, rfl⟩
  rw [← HP.out]
  obtain ⟨oa, cap, rfl, hcs⟩ := ho.hold
  have HCS : Hid _ := hcs
  have HFT : Hid (∀ c ∈ os, c.Fits) := hft
  have HST : Hid (Inv first os 0 J0) := Inv.start first os ht
  clear hcs ho hft ht
  obtain ⟨n, HN⟩ : ∃ n, Hid (os.length = n) := ⟨_, rfl⟩
  rw [HN.out] at HCS hn ⊢
  have hz := zero65
  have none_ : Hid (joinR first os = J0 → P (.returned (.tuple #[.int .u64 0, .string { data := #[] }, .slice none 0 0, .int .u32 0])) w) := fun h => by
    rw [HP.out]
    refine ⟨.slice none 0 0, ?_, ?_, Below.refl _ _⟩
    · rw [joinB_is h, h]; rfl
    · rw [h]; exact ⟨rfl, Or.inl ⟨rfl, rfl⟩⟩
  by_cases hn0 : n = 0
  · subst hn0
    have HR : Hid (joinR first os = J0) := HST.out.done (by rw [HN.out]; omega)
    go_enter Try.func39, Try.ntmps39
    go_wp2
    (try simp only [Exit.inBlock, Exit.then]); refine bodyPost_ret (results_tmp4 rfl _ _ _) rfl ?_
    exact none_.out HR.out
  have hn0' : ¬ (n : Int) = 0 := by omega
  have hnp : (0 : Int) < (n : Int) := by omega
  obtain ⟨a, e0, n0, b, t0, rfl, he0, hc0⟩ := HCS.out 0 (by omega)
  have p0 : w.cell? a = some (.int .u32 e0) := hc0 0 _ rfl
  have p1 : w.cell? ⟨a.block, a.off + 1, none⟩ = some (.int .u32 n0) := hc0 1 _ rfl
  have p2 : w.cell? ⟨a.block, a.off + 2, none⟩ = some (.int .u64 b) := hc0 2 _ rfl
  have HF0 : Hid (Ck.O.Fits ⟨e0, n0, b, t0⟩) := HFT.out _ (List.mem_of_getElem? he0)
  have HBJ : Hid (baseJ os = b) := baseJ_at he0
  have hb : 0 ≤ b ∧ b ≤ 18446744073709551615 := HF0.out.2.2
  have he00 : 0 ≤ e0 ∧ e0 ≤ 4294967295 := HF0.out.1
  have HE0 : Hid (os[0]? = some ⟨e0, n0, b, t0⟩) := he0
  clear he0 hc0
  by_cases h0 : n0 = first
  rotate_left
  · have HR : Hid (joinR first os = J0) := HST.out.stop HE0.out (by rw [ok_first hf HE0.out HF0.out (by exact he00.1)]; exact decide_eq_false h0)
    have h0' : (n0 != first) = true := by simp [h0]
    go_enter Try.func39, Try.ntmps39
    go_wp2
    (try simp only [Exit.inBlock, Exit.then]); refine bodyPost_ret (results_tmp4 rfl _ _ _) rfl ?_
    exact none_.out HR.out
  subst h0
  clear none_
  go_enter Try.func39, Try.ntmps39
  go_upto_region 3 with fail
  refine wp_region_held_drew (S := fun w' => Below w.heap.size w w' ∧ w'.cell? a = some (.int .u32 e0) ∧ w'.cell? ⟨a.block, a.off + 2, none⟩ = some (.int .u64 b)) (by kernel_rfl) ⟨(Below.refl _ _).drew, p0, p2⟩ fun hS => ?_
  refine wpAnyH_take (i := 0) (v := .slice (some a) n cap) rfl (by kernel_rfl) (by kernel_rfl) (by kernel_rfl) (fun _ _ _ h => h) (Or.inl ⟨by rfl, fun w _ => by rfl⟩) hS ?_
  try simp only [Act.put, List.getElem_toArray, List.getElem_cons_zero, List.getElem_cons_succ, List.setIfInBounds_toArray, List.set_cons_zero, List.set_cons_succ]
  refine wpAnyH_take (i := 1) (v := .pointer (some a)) rfl (by kernel_rfl) (by kernel_rfl) (by kernel_rfl) (fun _ _ _ h => h) (Or.inl ⟨by rfl, fun w _ => by go_simp⟩) hS ?_
  try simp only [Act.put, List.getElem_toArray, List.getElem_cons_zero, List.getElem_cons_succ, List.setIfInBounds_toArray, List.set_cons_zero, List.set_cons_succ]
  refine wpAnyH_take (i := 2) (v := .pointer (some ⟨a.block, a.off + 2, none⟩)) rfl (by kernel_rfl) (by kernel_rfl) (by kernel_rfl) (fun _ _ _ h => h) (Or.inl ⟨by rfl, fun w _ => by go_simp⟩) hS ?_
  try simp only [Act.put, List.getElem_toArray, List.getElem_cons_zero, List.getElem_cons_succ, List.setIfInBounds_toArray, List.set_cons_zero, List.set_cons_succ]
  refine wpAnyH_take (i := 3) (v := .int .u64 b) rfl (by kernel_rfl) (by kernel_rfl) (by kernel_rfl) (fun _ _ _ h => h) (Or.inl ⟨by rfl, fun w h => by have c := h.2.2; go_simp⟩) hS ?_
  try simp only [Act.put, List.getElem_toArray, List.getElem_cons_zero, List.getElem_cons_succ, List.setIfInBounds_toArray, List.set_cons_zero, List.set_cons_succ]
  refine wpAnyH_take (i := 4) (v := .slice (some a) n cap) rfl (by kernel_rfl) (by kernel_rfl) (by kernel_rfl) (fun _ _ _ h => h) (Or.inl ⟨by rfl, fun w _ => by rfl⟩) hS ?_
  try simp only [Act.put, List.getElem_toArray, List.getElem_cons_zero, List.getElem_cons_succ, List.setIfInBounds_toArray, List.set_cons_zero, List.set_cons_succ]
  refine wpAnyH_take (i := 5) (v := .pointer (some a)) rfl (by kernel_rfl) (by kernel_rfl) (by kernel_rfl) (fun _ _ _ h => h) (Or.inl ⟨by rfl, fun w _ => by go_simp⟩) hS ?_
  try simp only [Act.put, List.getElem_toArray, List.getElem_cons_zero, List.getElem_cons_succ, List.setIfInBounds_toArray, List.set_cons_zero, List.set_cons_succ]
  refine wpAnyH_take (i := 6) (v := .pointer (some a)) rfl (by kernel_rfl) (by kernel_rfl) (by kernel_rfl) (fun _ _ _ h => h) (Or.inl ⟨by rfl, fun w _ => by go_simp⟩) hS ?_
  try simp only [Act.put, List.getElem_toArray, List.getElem_cons_zero, List.getElem_cons_succ, List.setIfInBounds_toArray, List.set_cons_zero, List.set_cons_succ]
  refine wpAnyH_take (i := 7) (v := .int .u32 e0) rfl (by kernel_rfl) (by kernel_rfl) (by kernel_rfl) (fun _ _ _ h => h) (Or.inl ⟨by rfl, fun w h => by have c := h.2.1; go_simp⟩) hS ?_
  try simp only [Act.put, List.getElem_toArray, List.getElem_cons_zero, List.getElem_cons_succ, List.setIfInBounds_toArray, List.set_cons_zero, List.set_cons_succ]
  refine wpAnyH_take (i := 8) (v := .int .u64 b) rfl (by kernel_rfl) (by kernel_rfl) (by kernel_rfl) (fun _ _ _ h => h) (Or.inl ⟨by rfl, fun w _ => by rfl⟩) hS ?_
  try simp only [Act.put, List.getElem_toArray, List.getElem_cons_zero, List.getElem_cons_succ, List.setIfInBounds_toArray, List.set_cons_zero, List.set_cons_succ]
  refine wpAnyH_take (i := 9) (v := .int .u32 e0) rfl (by kernel_rfl) (by kernel_rfl) (by kernel_rfl) (fun _ _ _ h => h) (Or.inl ⟨by rfl, fun w _ => by rfl⟩) hS ?_
  try simp only [Act.put, List.getElem_toArray, List.getElem_cons_zero, List.getElem_cons_succ, List.setIfInBounds_toArray, List.set_cons_zero, List.set_cons_succ]
  refine wpAnyH_done (by kernel_rfl) ?_ _
  have rb0 := hS.1
  clear hS p0 p1 p2
  generalize w.drew = ws at rb0 ⊢
  go_upto_region 7 with fail
  go_loopw [9, 10, 11, 35] (fun x9 x10 x11 d wr => ∃ (k : Nat) (j : J) (E : Int) (oa1 : Option Addr) (m cap1 : Nat) (oa2 : Option Addr) (cap2 : Nat), x9 = .int .u32 E ∧ x10 = .slice oa1 m cap1 ∧ x11 = .slice oa2 k cap2 ∧ d = .int .i64 k ∧ k ≤ n ∧ Below w.heap.size w wr ∧ OwnB wr w.heap.size (.slice oa1 m cap1) j.str ∧ St.Own wr w.heap.size (.slice oa2 k cap2) j.sts ∧ Hid (Inv n0 os k j) ∧ Hid (k = 0 → j = J0) ∧ Hid (E = if k = 0 then e0 else j.ep)) (fun _ _ _ d _ => n - (intOf d).toNat)
  case atStart => exact ⟨0, J0, e0, none, 0, 0, none, 0, rfl, rfl, rfl, rfl, by omega, rb0, ⟨rfl, Or.inl ⟨rfl, rfl⟩⟩, ⟨rfl, Or.inl ⟨rfl, rfl⟩⟩, HST, fun _ => rfl, by show _ = _; rw [if_pos rfl]⟩
  case round =>
    clear HST rb0
    obtain ⟨k, j, E, oa1, m, cap1, oa2, cap2, rfl, rfl, rfl, rfl, hk, rb, oB, oS, HI, HJ0, HEQ⟩ := hrel
    have HML : Hid ((j.str.length : Int) = (m : Int)) := by show _ = _; rw [(OwnB.shape oB).1]
    have hmb : m ≤ 1048576 := by have h1 := HML.out; have h2 := HI.out.room; omega
    have hE : 0 ≤ E ∧ E ≤ 4294967295 := by
      rw [HEQ.out]; split
      · exact he00
      · exact HI.out.ep
    by_cases hkn : k < n
    · have hkn' : (k : Int) < (n : Int) := by omega
      obtain ⟨a', e, nu, o, t, ha', he, hc⟩ := HCS.out k hkn
      cases ha'
      have HC : Hid (∀ j u, ([.int .u32 e, .int .u32 nu, .int .u64 o, .string t] : List Value)[j]? = some u → wr.cell? ((a.add (k * 4)).add j) = some u) := fun j u hj => St.cell_keep (hc j u hj) rb
      have HE : Hid (os[k]? = some ⟨e, nu, o, t⟩) := he
      have HFC : Hid (Ck.O.Fits ⟨e, nu, o, t⟩) := HFT.out _ (List.mem_of_getElem? he)
      have fe : 0 ≤ e ∧ e ≤ 4294967295 := HFC.out.1
      have fn : 0 ≤ nu ∧ nu ≤ 4294967295 := HFC.out.2.1
      have fo : 0 ≤ o ∧ o ≤ 18446744073709551615 := HFC.out.2.2
      have HTX : Hid (t.size ≤ 1048576) := by have h1 := Ck.Olds.room he; have h2 := HI.out.room; show _ ≤ _; simp only at h1; omega
      have HOK : Hid (okJ n0 (baseJ os) k j ⟨e, nu, o, t⟩ = decide (nu = (n0 + (k : Int)) % 4294967296 ∧ E ≤ e ∧ b ≤ o ∧ o - b ≤ (m : Int))) := by
        show _ = _
        by_cases hk0 : k = 0
        · subst hk0
          have hj := HJ0.out rfl
          have hee := HEQ.out
          rw [if_pos rfl] at hee
          have h0 := he
          rw [HE0.out] at h0
          obtain ⟨rfl, rfl, rfl, rfl⟩ : e0 = e ∧ n0 = nu ∧ b = o ∧ t0 = t := by simpa using h0
          unfold okJ
          rw [HBJ.out, hee, HML.out, hj]
          simp [J0, fe.1]
        · have hee := HEQ.out
          rw [if_neg hk0] at hee
          unfold okJ
          rw [HBJ.out, ← hee, ← HML.out]
      have HOK0 : Hid (k = 0 → okJ n0 (baseJ os) k j ⟨e, nu, o, t⟩ = true) := by
        intro hk0
        subst hk0
        have h0 := he
        rw [HE0.out] at h0
        obtain ⟨rfl, rfl, rfl, rfl⟩ : e0 = e ∧ n0 = nu ∧ b = o ∧ t0 = t := by simpa using h0
        rw [ok_first hf HE0.out HFC.out (by rw [HJ0.out rfl]; exact fe.1)]
        simp
      clear he hc
      have q0 : Row (wr.alloc (.cells #[.int .u32 0, .int .u32 0, .int .u64 0, .string ByteArray.empty] 65)) wr.heap.size #[.int .u32 0, .int .u32 0, .int .u64 0, .string ByteArray.empty] 65 := Row.new _ _ _
      have tl : Hid (1 = 1) := rfl
      go_upto_region 9 with (first
        | (have hh := tl; clear hh tl; refine wpList_load_any rfl 65 (.tmp 38) rfl (a.add (k * 4)) rfl [.int .u32 e, .int .u32 nu, .int .u64 o, .string t] _ HC.out Try.underlying65 rfl size65 ?_)
        | (refine store_cells rfl 65 (.tmp 13) (.tmp 39) rfl wr.heap.size #[.int .u32 e, .int .u32 nu, .int .u64 o, .string t] rfl rfl 65 _ q0 4 size65 rfl rfl (by simp [Value.oneCell']) ?_))
      have q1 := q0.set #[.int .u32 e, .int .u32 nu, .int .u64 o, .string t]
      have hgp : w.heap.size ≤ wr.heap.size := rb.size
      have rb1 := below_setRow (rb.alloc rb.size (.cells #[.int .u32 0, .int .u32 0, .int .u64 0, .string ByteArray.empty] 65)) rb.size #[.int .u32 e, .int .u32 nu, .int .u64 o, .string t]
      have bb := below_setRow ((Below.refl wr.heap.size wr).alloc (Nat.le_refl _) (.cells #[.int .u32 0, .int .u32 0, .int .u64 0, .string ByteArray.empty] 65)) (Nat.le_refl _) #[.int .u32 e, .int .u32 nu, .int .u64 o, .string t]
      have oS1 := oS.keep bb
      have oB1 := oB.keep bb
      clear q0 HC oS oB rb bb
      generalize (wr.alloc (.cells #[.int .u32 0, .int .u32 0, .int .u64 0, .string ByteArray.empty] 65)).setRow wr.heap.size #[.int .u32 e, .int .u32 nu, .int .u64 o, .string t] = wq at q1 rb1 oS1 oB1 ⊢
      generalize wr.heap.size = gp at q1 hgp ⊢
      have c0 := row_at q1 0 _ rfl
      have c1 := row_at q1 1 _ rfl
      have c2 := row_at q1 2 _ rfl
      try simp only [Act.put]
      go_cut [61] from 40 to 61 (fun c wx => c = .bool (!okJ n0 (baseJ os) k j ⟨e, nu, o, t⟩) ∧ wx = wq)
      case first =>
        have HWI : Hid (∀ wx, Calls Try.prog 66 #[.int .u64 b, .int .i64 (m : Int), .int .u64 o] wx fun e w' => e = .returned (.bool (decide (b ≤ o ∧ o - b ≤ (m : Int)))) ∧ w' = wx) := fun wx => rhas_any b m o wx hb (by omega) fo
        by_cases h1 : nu = (n0 + (k : Int)) % 4294967296
        · subst h1
          by_cases h2 : e < E
          · go_wp2
            go_meet
            exact ⟨by rw [HOK.out, decide_eq_false (fun q => by omega)]; rfl, rfl⟩
          · by_cases h3 : b ≤ o ∧ o - b ≤ (m : Int)
            · have HX : Hid (E ≤ e ∧ b ≤ o ∧ o - b ≤ (m : Int)) := ⟨by omega, h3⟩
              rw [decide_eq_true h3] at HWI
              clear h3
              go_wp2_with (go_at_call 66; refine Calls.mono (HWI.out _) ?_; rintro ex w2 ⟨rfl, rfl⟩)
              go_meet
              exact ⟨by rw [HOK.out, decide_eq_true ⟨trivial, HX.out⟩]; rfl, rfl⟩
            · rw [decide_eq_false h3] at HWI
              have HX : Hid (¬ (b ≤ o ∧ o - b ≤ (m : Int))) := h3
              clear h3
              go_wp2_with (go_at_call 66; refine Calls.mono (HWI.out _) ?_; rintro ex w2 ⟨rfl, rfl⟩)
              go_meet
              exact ⟨by rw [HOK.out, decide_eq_false (fun q => HX.out q.2.2)]; rfl, rfl⟩
        · go_wp2
          go_meet
          exact ⟨by rw [HOK.out, decide_eq_false (fun q => h1 q.1)]; rfl, rfl⟩
      case rest =>
        obtain ⟨rfl, rfl⟩ := hcut
        cases hok : okJ n0 (baseJ os) k j ⟨e, nu, o, t⟩
        · have HR : Hid (joinR n0 os = j) := HI.out.stop HE.out hok
          have hk0 : ¬ k = 0 := fun q => by rw [HOK0.out q] at hok; cases hok
          have HEE : Hid (j.ep = E) := by show _ = _; rw [HEQ.out, if_neg hk0]
          have hl0 : Hid (j.sts.length = k) := HI.out.len
          clear hok c0 c1 c2 HOK HOK0
          simp only [Bool.not_false]
          go_upto_region 14 with fail
          refine wp_region_held_drew (S := fun w' => OwnB w' w.heap.size (.slice oa1 m cap1) j.str) (by kernel_rfl) oB1 fun hS => ?_
          refine wpAnyH_take (i := 0) (v := .int .u64 b) rfl (by kernel_rfl) (by kernel_rfl) (by kernel_rfl) (fun _ _ _ h => h) (Or.inl ⟨by rfl, fun w _ => by rfl⟩) hS ?_
          try simp only [Act.put, List.getElem_toArray, List.getElem_cons_zero, List.getElem_cons_succ, List.setIfInBounds_toArray, List.set_cons_zero, List.set_cons_succ]
          refine wpAnyH_take (i := 1) (v := .slice oa1 m cap1) rfl (by kernel_rfl) (by kernel_rfl) (by kernel_rfl) (fun _ _ _ h => h) (Or.inl ⟨by rfl, fun w _ => by rfl⟩) hS ?_
          try simp only [Act.put, List.getElem_toArray, List.getElem_cons_zero, List.getElem_cons_succ, List.setIfInBounds_toArray, List.set_cons_zero, List.set_cons_succ]
          refine wpAnyH_take (i := 2) (v := .string (strOfNums j.str)) rfl (by kernel_rfl) (by kernel_rfl) (by kernel_rfl) (fun _ _ _ h => h) (Or.inl ⟨by rfl, fun w h => by have hx := OwnB.text h; go_simp⟩) hS ?_
          try simp only [Act.put, List.getElem_toArray, List.getElem_cons_zero, List.getElem_cons_succ, List.setIfInBounds_toArray, List.set_cons_zero, List.set_cons_succ]
          refine wpAnyH_take (i := 3) (v := .slice oa2 k cap2) rfl (by kernel_rfl) (by kernel_rfl) (by kernel_rfl) (fun _ _ _ h => h) (Or.inl ⟨by rfl, fun w _ => by rfl⟩) hS ?_
          try simp only [Act.put, List.getElem_toArray, List.getElem_cons_zero, List.getElem_cons_succ, List.setIfInBounds_toArray, List.set_cons_zero, List.set_cons_succ]
          refine wpAnyH_take (i := 4) (v := .int .u32 E) rfl (by kernel_rfl) (by kernel_rfl) (by kernel_rfl) (fun _ _ _ h => h) (Or.inl ⟨by rfl, fun w _ => by rfl⟩) hS ?_
          try simp only [Act.put, List.getElem_toArray, List.getElem_cons_zero, List.getElem_cons_succ, List.setIfInBounds_toArray, List.set_cons_zero, List.set_cons_succ]
          refine wpAnyH_take (i := 5) (v := .int .u64 b) rfl (by kernel_rfl) (by kernel_rfl) (by kernel_rfl) (fun _ _ _ h => h) (Or.inl ⟨by rfl, fun w _ => by rfl⟩) hS ?_
          try simp only [Act.put, List.getElem_toArray, List.getElem_cons_zero, List.getElem_cons_succ, List.setIfInBounds_toArray, List.set_cons_zero, List.set_cons_succ]
          refine wpAnyH_take (i := 6) (v := .string (strOfNums j.str)) rfl (by kernel_rfl) (by kernel_rfl) (by kernel_rfl) (fun _ _ _ h => h) (Or.inl ⟨by rfl, fun w _ => by rfl⟩) hS ?_
          try simp only [Act.put, List.getElem_toArray, List.getElem_cons_zero, List.getElem_cons_succ, List.setIfInBounds_toArray, List.set_cons_zero, List.set_cons_succ]
          refine wpAnyH_take (i := 7) (v := .slice oa2 k cap2) rfl (by kernel_rfl) (by kernel_rfl) (by kernel_rfl) (fun _ _ _ h => h) (Or.inl ⟨by rfl, fun w _ => by rfl⟩) hS ?_
          try simp only [Act.put, List.getElem_toArray, List.getElem_cons_zero, List.getElem_cons_succ, List.setIfInBounds_toArray, List.set_cons_zero, List.set_cons_succ]
          refine wpAnyH_take (i := 8) (v := .int .u32 E) rfl (by kernel_rfl) (by kernel_rfl) (by kernel_rfl) (fun _ _ _ h => h) (Or.inl ⟨by rfl, fun w _ => by rfl⟩) hS ?_
          try simp only [Act.put, List.getElem_toArray, List.getElem_cons_zero, List.getElem_cons_succ, List.setIfInBounds_toArray, List.set_cons_zero, List.set_cons_succ]
          refine wpAnyH_done (by kernel_rfl) ?_ _
          go_wp2
          (try simp only [Exit.inBlock, Exit.then]); refine bodyPost_ret (results_tmp4 rfl _ _ _) rfl ?_
          rw [HP.out]
          refine ⟨.slice oa2 k cap2, ?_, by rw [HR.out]; exact oS1, Below.drew rb1⟩
          rw [joinB_is HR.out, HR.out, hl0.out, if_neg hk0, HBJ.out, HEE.out]; rfl
        · have HN2 : Hid _ := HI.out.next HE.out HFC.out hok
          rw [HOK.out] at hok
          simp only [decide_eq_true_eq] at hok
          have hok3 := hok.2.2
          clear hok HOK HOK0
          simp only [Bool.not_true]
          obtain ⟨D, hD⟩ : ∃ D : Nat, o - b = D := ⟨(o - b).toNat, by omega⟩
          have hDs : D ≤ m := by omega
          have HNX : Hid ((nextJ (baseJ os) j ⟨e, nu, o, t⟩).str = j.str.take D ++ nums t) := by show _ = _; unfold nextJ; rw [HBJ.out]; simp only; rw [hD, Int.toNat_natCast]
          have hDm : (o - b) % 18446744073709551616 = D := by omega
          have hDw : IntKind.u64.wrap (D : Int) = D := by rw [IntKind.wrap_u64]; omega
          have hml : Hid (j.str.length = m) := by show _ = _; have := HML.out; omega
          have hmc := (OwnB.shape oB1).2.1
          have hsh := (OwnB.shape oB1).2.2
          have hDc : ¬ (cap1 : Int) < (D : Int) := by omega
          have hDc2 : (D : Int) ≤ (cap1 : Int) := by omega
          clear hok3 c0 c1 c2
          rcases hsh with ⟨rfl, rfl, rfl⟩ | ⟨g5, rfl⟩
          · obtain rfl : D = 0 := by omega
            go_upto_region 10 with fail
            refine wp_region_held_drew (S := fun w' => Row w' gp #[.int .u32 e, .int .u32 nu, .int .u64 o, .string t] 65) (by kernel_rfl) q1 fun hS => ?_
            refine wpAnyH_take (i := 0) (v := .slice none 0 0) rfl (by kernel_rfl) (by kernel_rfl) (by kernel_rfl) (fun _ _ _ h => h) (Or.inl ⟨by rfl, fun w _ => by rfl⟩) hS ?_
            try simp only [Act.put, List.getElem_toArray, List.getElem_cons_zero, List.getElem_cons_succ, List.setIfInBounds_toArray, List.set_cons_zero, List.set_cons_succ]
            refine wpAnyH_take (i := 1) (v := .pointer (some ⟨gp, 2, none⟩)) rfl (by kernel_rfl) (by kernel_rfl) (by kernel_rfl) (fun _ _ _ h => h) (Or.inl ⟨by rfl, fun w _ => by go_simp⟩) hS ?_
            try simp only [Act.put, List.getElem_toArray, List.getElem_cons_zero, List.getElem_cons_succ, List.setIfInBounds_toArray, List.set_cons_zero, List.set_cons_succ]
            refine wpAnyH_take (i := 2) (v := .int .u64 o) rfl (by kernel_rfl) (by kernel_rfl) (by kernel_rfl) (fun _ _ _ h => h) (Or.inl ⟨by rfl, fun w h => by have c := row_at h 2 _ rfl; go_simp⟩) hS ?_
            try simp only [Act.put, List.getElem_toArray, List.getElem_cons_zero, List.getElem_cons_succ, List.setIfInBounds_toArray, List.set_cons_zero, List.set_cons_succ]
            refine wpAnyH_take (i := 3) (v := .int .u64 b) rfl (by kernel_rfl) (by kernel_rfl) (by kernel_rfl) (fun _ _ _ h => h) (Or.inl ⟨by rfl, fun w _ => by rfl⟩) hS ?_
            try simp only [Act.put, List.getElem_toArray, List.getElem_cons_zero, List.getElem_cons_succ, List.setIfInBounds_toArray, List.set_cons_zero, List.set_cons_succ]
            refine wpAnyH_take (i := 4) (v := .int .u64 0) rfl (by kernel_rfl) (by kernel_rfl) (by kernel_rfl) (fun _ _ _ h => h) (Or.inl ⟨by rfl, fun w _ => by first | (go_simp; done) | (go_simp; rfl) | (go_simp; exact hDw)⟩) hS ?_
            try simp only [Act.put, List.getElem_toArray, List.getElem_cons_zero, List.getElem_cons_succ, List.setIfInBounds_toArray, List.set_cons_zero, List.set_cons_succ]
            refine wpAnyH_take (i := 5) (v := .slice none 0 0) rfl (by kernel_rfl) (by kernel_rfl) (by kernel_rfl) (fun _ _ _ h => h) (Or.inl ⟨by rfl, fun w _ => by go_simp⟩) hS ?_
            try simp only [Act.put, List.getElem_toArray, List.getElem_cons_zero, List.getElem_cons_succ, List.setIfInBounds_toArray, List.set_cons_zero, List.set_cons_succ]
            refine wpAnyH_take (i := 6) (v := .pointer (some ⟨gp, 3, none⟩)) rfl (by kernel_rfl) (by kernel_rfl) (by kernel_rfl) (fun _ _ _ h => h) (Or.inl ⟨by rfl, fun w _ => by go_simp⟩) hS ?_
            try simp only [Act.put, List.getElem_toArray, List.getElem_cons_zero, List.getElem_cons_succ, List.setIfInBounds_toArray, List.set_cons_zero, List.set_cons_succ]
            refine wpAnyH_take (i := 7) (v := .string t) rfl (by kernel_rfl) (by kernel_rfl) (by kernel_rfl) (fun _ _ _ h => h) (Or.inl ⟨by rfl, fun w h => by have c := row_at h 3 _ rfl; go_simp⟩) hS ?_
            try simp only [Act.put, List.getElem_toArray, List.getElem_cons_zero, List.getElem_cons_succ, List.setIfInBounds_toArray, List.set_cons_zero, List.set_cons_succ]
            have oB2 : OwnB wc.drew w.heap.size (.slice none 0 0) (j.str.take 0) := OwnB.cut oB1 0 (by have := hml.out; omega)
            have rb2 := rb1.drew
            have oS2 : St.Own wc.drew w.heap.size (.slice oa2 k cap2) j.sts := oS1
            generalize wc.drew = wd at hS rb2 oS2 oB2 ⊢
            have hr := fun ty => oB2.snoc t rb2.size (by have h1 := HTX.out; have h2 := hmb; have h3 := hml.out; rw [List.length_take]; omega) ty
            refine wpAnyH_ready (rs := [8]) (by kernel_rfl) (by simp) ?_
            refine AllReadyH.cons rfl (fun K hK => step_of rfl (wp_append2 (.tmp 67) (.tmp 69) 72 9 rfl (.slice none 0 0) (.string t) rfl rfl (T := fun v' w' => OwnB w' w.heap.size v' (j.str.take 0 ++ nums t) ∧ wd.grownBy w' (Value.slice none 0 0).ownBlock) (fun ty => hr ty) ?_)) AllReadyH.nil
            rintro v2 w7 ⟨oB3, gr⟩
            refine hK.out _ _ (Row.grown hS gr (row_apart oB2 hS (by decide))) fun hS => ?_
            try simp only [Act.put, List.getElem_toArray, List.getElem_cons_zero, List.getElem_cons_succ, List.setIfInBounds_toArray, List.set_cons_zero, List.set_cons_succ]
            have oS3 : St.Own w7 w.heap.size (.slice oa2 k cap2) j.sts := ownsRow_grown oS2 oB2 (by decide) gr
            have rb3 : Below w.heap.size w w7 := rb2.grown gr rb2.size (fun jj q => (World.ownsRow.lt oB2 jj q).1)
            clear hr gr oB2 oS2 rb2 oB1 oS1 rb1 q1
            obtain ⟨oa5, cap5, hf5⟩ := oB3.form
            obtain ⟨m5, HM5⟩ : ∃ m5, Hid ((j.str.take 0 ++ nums t).length = m5) := ⟨_, rfl⟩
            rw [HM5.out] at hf5
            subst hf5
            refine wpAnyH_take (i := 9) (v := .slice oa5 m5 cap5) rfl (by kernel_rfl) (by kernel_rfl) (by kernel_rfl) (fun _ _ _ h => h) (Or.inl ⟨by rfl, fun w _ => by rfl⟩) hS ?_
            try simp only [Act.put, List.getElem_toArray, List.getElem_cons_zero, List.getElem_cons_succ, List.setIfInBounds_toArray, List.set_cons_zero, List.set_cons_succ]
            refine wpAnyH_done (by kernel_rfl) ?_ _
            have d0 := row_at hS 0 _ rfl
            have d1 := row_at hS 1 _ rfl
            have d2 := row_at hS 2 _ rfl
            have l4 : Row (w7.alloc (.cells #[.int .u32 nu, .int .u64 o] 104)) w7.heap.size #[.int .u32 nu, .int .u64 o] 104 := Row.new _ _ _
            have oS4 := St.Own.alloc oS3 (.cells #[.int .u32 nu, .int .u64 o] 104)
            have oB4 : OwnB (w7.alloc (.cells #[.int .u32 nu, .int .u64 o] 104)) w.heap.size (.slice oa5 m5 cap5) (j.str.take 0 ++ nums t) := OwnB.keep oB3 ((Below.refl _ _).alloc (Nat.le_refl _) _)
            have q3 := hS.alloc (.cells #[.int .u32 nu, .int .u64 o] 104)
            have hr := fun ty => oS4.snocP ty w7.heap.size ⟨nu, o⟩ l4 (by have := rb3.size; simp; omega) (by rw [HI.out.len]; omega)
            have HHR : Hid _ := hr
            have rb4 := rb3.alloc rb3.size (.cells #[.int .u32 nu, .int .u64 o] 104)
            have hb2 := built78two nu o
            have HOS : Hid (St.Own (w7.alloc (.cells #[.int .u32 nu, .int .u64 o] 104)) w.heap.size (.slice oa2 k cap2) j.sts) := oS4
            have HOB : Hid (OwnB (w7.alloc (.cells #[.int .u32 nu, .int .u64 o] 104)) w.heap.size (.slice oa5 m5 cap5) (j.str.take 0 ++ nums t)) := oB4
            have HQ3 : Hid (Row (w7.alloc (.cells #[.int .u32 nu, .int .u64 o] 104)) gp #[.int .u32 e, .int .u32 nu, .int .u64 o, .string t] 65) := q3
            clear hr oS3 oS4 oB3 oB4 l4 q3 rb3
            go_wp2_with (first
              | (refine build_parts rfl 104 #[(0, .tmp 73), (1, .tmp 75)] rfl [(0, .int .u32 nu), (1, .int .u64 o)] rfl _ hb2 ?_)
              | (at_builtin; refine St.wpList_copy rfl (.tmp 71) (.tmp 77) 23 rfl (.slice oa2 k cap2) (.slice (some ⟨w7.heap.size, 0, none⟩) 1 1) rfl rfl (T := fun v' w' => St.Own w' w.heap.size v' (j.sts ++ [⟨nu, o⟩]) ∧ (w7.alloc (.cells #[.int .u32 nu, .int .u64 o] 104)).grownBy w' (Value.slice oa2 k cap2).ownBlock) (fun ty => HHR.out ty) ?_
                 rintro v8 w8 ⟨lo8, gr8⟩
                 have eb : Below w.heap.size w w8 := rb4.grown gr8 rb4.size (fun jj q => (World.ownsRow.lt HOS.out jj q).1)
                 have oB8 : Hid (OwnB w8 w.heap.size (.slice oa5 m5 cap5) (j.str.take 0 ++ nums t)) := ownsRow_grown HOB.out HOS.out (by decide) gr8
                 have f0 := row_at (Row.grown HQ3.out gr8 (row_apart HOS.out HQ3.out (by decide))) 0 _ rfl
                 clear gr8 rb4 HHR HOB HQ3))
            obtain ⟨oa8, cap8, hf8⟩ := lo8.form
            have hl8 : (j.sts ++ [(⟨nu, o⟩ : St.O)]).length = k + 1 := by simp [HI.out.len]
            rw [hl8] at hf8
            subst hf8
            go_roundw
            case rel => exact ⟨.int .u32 e, .slice oa5 m5 cap5, .slice oa8 (k + 1) cap8, .int .i64 k, .pointer (some ⟨gp, 0, none⟩), .int .i64 ((k : Int) + 1), ⟨k + 1, nextJ (baseJ os) j ⟨e, nu, o, t⟩, e, rfl, oa5, m5, cap5, rfl, oa8, cap8, rfl, by go_num, by omega, by rw [HNX.out]; exact oB8.out, lo8, HN2, fun q => absurd q (by omega), by show _ = _; rw [if_neg (by omega)]; rfl⟩, rfl, rfl, rfl, rfl, rfl, rfl⟩
            case measure => simp [intOf]; omega
          · skip
            go_upto_region 10 with fail
            refine wp_region_held_drew (S := fun w' => Row w' gp #[.int .u32 e, .int .u32 nu, .int .u64 o, .string t] 65) (by kernel_rfl) q1 fun hS => ?_
            refine wpAnyH_take (i := 0) (v := .slice (some ⟨g5, 0, none⟩) m cap1) rfl (by kernel_rfl) (by kernel_rfl) (by kernel_rfl) (fun _ _ _ h => h) (Or.inl ⟨by rfl, fun w _ => by rfl⟩) hS ?_
            try simp only [Act.put, List.getElem_toArray, List.getElem_cons_zero, List.getElem_cons_succ, List.setIfInBounds_toArray, List.set_cons_zero, List.set_cons_succ]
            refine wpAnyH_take (i := 1) (v := .pointer (some ⟨gp, 2, none⟩)) rfl (by kernel_rfl) (by kernel_rfl) (by kernel_rfl) (fun _ _ _ h => h) (Or.inl ⟨by rfl, fun w _ => by go_simp⟩) hS ?_
            try simp only [Act.put, List.getElem_toArray, List.getElem_cons_zero, List.getElem_cons_succ, List.setIfInBounds_toArray, List.set_cons_zero, List.set_cons_succ]
            refine wpAnyH_take (i := 2) (v := .int .u64 o) rfl (by kernel_rfl) (by kernel_rfl) (by kernel_rfl) (fun _ _ _ h => h) (Or.inl ⟨by rfl, fun w h => by have c := row_at h 2 _ rfl; go_simp⟩) hS ?_
            try simp only [Act.put, List.getElem_toArray, List.getElem_cons_zero, List.getElem_cons_succ, List.setIfInBounds_toArray, List.set_cons_zero, List.set_cons_succ]
            refine wpAnyH_take (i := 3) (v := .int .u64 b) rfl (by kernel_rfl) (by kernel_rfl) (by kernel_rfl) (fun _ _ _ h => h) (Or.inl ⟨by rfl, fun w _ => by rfl⟩) hS ?_
            try simp only [Act.put, List.getElem_toArray, List.getElem_cons_zero, List.getElem_cons_succ, List.setIfInBounds_toArray, List.set_cons_zero, List.set_cons_succ]
            refine wpAnyH_take (i := 4) (v := .int .u64 D) rfl (by kernel_rfl) (by kernel_rfl) (by kernel_rfl) (fun _ _ _ h => h) (Or.inl ⟨by rfl, fun w _ => by first | (go_simp; done) | (go_simp; rfl) | (go_simp; exact hDw)⟩) hS ?_
            try simp only [Act.put, List.getElem_toArray, List.getElem_cons_zero, List.getElem_cons_succ, List.setIfInBounds_toArray, List.set_cons_zero, List.set_cons_succ]
            refine wpAnyH_take (i := 5) (v := .slice (some ⟨g5, 0, none⟩) D cap1) rfl (by kernel_rfl) (by kernel_rfl) (by kernel_rfl) (fun _ _ _ h => h) (Or.inl ⟨by rfl, fun w _ => by go_simp⟩) hS ?_
            try simp only [Act.put, List.getElem_toArray, List.getElem_cons_zero, List.getElem_cons_succ, List.setIfInBounds_toArray, List.set_cons_zero, List.set_cons_succ]
            refine wpAnyH_take (i := 6) (v := .pointer (some ⟨gp, 3, none⟩)) rfl (by kernel_rfl) (by kernel_rfl) (by kernel_rfl) (fun _ _ _ h => h) (Or.inl ⟨by rfl, fun w _ => by go_simp⟩) hS ?_
            try simp only [Act.put, List.getElem_toArray, List.getElem_cons_zero, List.getElem_cons_succ, List.setIfInBounds_toArray, List.set_cons_zero, List.set_cons_succ]
            refine wpAnyH_take (i := 7) (v := .string t) rfl (by kernel_rfl) (by kernel_rfl) (by kernel_rfl) (fun _ _ _ h => h) (Or.inl ⟨by rfl, fun w h => by have c := row_at h 3 _ rfl; go_simp⟩) hS ?_
            try simp only [Act.put, List.getElem_toArray, List.getElem_cons_zero, List.getElem_cons_succ, List.setIfInBounds_toArray, List.set_cons_zero, List.set_cons_succ]
            have oB2 : OwnB wc.drew w.heap.size (.slice (some ⟨g5, 0, none⟩) D cap1) (j.str.take D) := OwnB.cut oB1 D (by have := hml.out; omega)
            have rb2 := rb1.drew
            have oS2 : St.Own wc.drew w.heap.size (.slice oa2 k cap2) j.sts := oS1
            generalize wc.drew = wd at hS rb2 oS2 oB2 ⊢
            have hr := fun ty => oB2.snoc t rb2.size (by have h1 := HTX.out; have h2 := hmb; have h3 := hml.out; rw [List.length_take]; omega) ty
            refine wpAnyH_ready (rs := [8]) (by kernel_rfl) (by simp) ?_
            refine AllReadyH.cons rfl (fun K hK => step_of rfl (wp_append2 (.tmp 67) (.tmp 69) 72 9 rfl (.slice (some ⟨g5, 0, none⟩) D cap1) (.string t) rfl rfl (T := fun v' w' => OwnB w' w.heap.size v' (j.str.take D ++ nums t) ∧ wd.grownBy w' (Value.slice (some ⟨g5, 0, none⟩) D cap1).ownBlock) (fun ty => hr ty) ?_)) AllReadyH.nil
            rintro v2 w7 ⟨oB3, gr⟩
            refine hK.out _ _ (Row.grown hS gr (row_apart oB2 hS (by decide))) fun hS => ?_
            try simp only [Act.put, List.getElem_toArray, List.getElem_cons_zero, List.getElem_cons_succ, List.setIfInBounds_toArray, List.set_cons_zero, List.set_cons_succ]
            have oS3 : St.Own w7 w.heap.size (.slice oa2 k cap2) j.sts := ownsRow_grown oS2 oB2 (by decide) gr
            have rb3 : Below w.heap.size w w7 := rb2.grown gr rb2.size (fun jj q => (World.ownsRow.lt oB2 jj q).1)
            clear hr gr oB2 oS2 rb2 oB1 oS1 rb1 q1
            obtain ⟨oa5, cap5, hf5⟩ := oB3.form
            obtain ⟨m5, HM5⟩ : ∃ m5, Hid ((j.str.take D ++ nums t).length = m5) := ⟨_, rfl⟩
            rw [HM5.out] at hf5
            subst hf5
            refine wpAnyH_take (i := 9) (v := .slice oa5 m5 cap5) rfl (by kernel_rfl) (by kernel_rfl) (by kernel_rfl) (fun _ _ _ h => h) (Or.inl ⟨by rfl, fun w _ => by rfl⟩) hS ?_
            try simp only [Act.put, List.getElem_toArray, List.getElem_cons_zero, List.getElem_cons_succ, List.setIfInBounds_toArray, List.set_cons_zero, List.set_cons_succ]
            refine wpAnyH_done (by kernel_rfl) ?_ _
            have d0 := row_at hS 0 _ rfl
            have d1 := row_at hS 1 _ rfl
            have d2 := row_at hS 2 _ rfl
            have l4 : Row (w7.alloc (.cells #[.int .u32 nu, .int .u64 o] 104)) w7.heap.size #[.int .u32 nu, .int .u64 o] 104 := Row.new _ _ _
            have oS4 := St.Own.alloc oS3 (.cells #[.int .u32 nu, .int .u64 o] 104)
            have oB4 : OwnB (w7.alloc (.cells #[.int .u32 nu, .int .u64 o] 104)) w.heap.size (.slice oa5 m5 cap5) (j.str.take D ++ nums t) := OwnB.keep oB3 ((Below.refl _ _).alloc (Nat.le_refl _) _)
            have q3 := hS.alloc (.cells #[.int .u32 nu, .int .u64 o] 104)
            have hr := fun ty => oS4.snocP ty w7.heap.size ⟨nu, o⟩ l4 (by have := rb3.size; simp; omega) (by rw [HI.out.len]; omega)
            have HHR : Hid _ := hr
            have rb4 := rb3.alloc rb3.size (.cells #[.int .u32 nu, .int .u64 o] 104)
            have hb2 := built78two nu o
            have HOS : Hid (St.Own (w7.alloc (.cells #[.int .u32 nu, .int .u64 o] 104)) w.heap.size (.slice oa2 k cap2) j.sts) := oS4
            have HOB : Hid (OwnB (w7.alloc (.cells #[.int .u32 nu, .int .u64 o] 104)) w.heap.size (.slice oa5 m5 cap5) (j.str.take D ++ nums t)) := oB4
            have HQ3 : Hid (Row (w7.alloc (.cells #[.int .u32 nu, .int .u64 o] 104)) gp #[.int .u32 e, .int .u32 nu, .int .u64 o, .string t] 65) := q3
            clear hr oS3 oS4 oB3 oB4 l4 q3 rb3
            go_wp2_with (first
              | (refine build_parts rfl 104 #[(0, .tmp 73), (1, .tmp 75)] rfl [(0, .int .u32 nu), (1, .int .u64 o)] rfl _ hb2 ?_)
              | (at_builtin; refine St.wpList_copy rfl (.tmp 71) (.tmp 77) 23 rfl (.slice oa2 k cap2) (.slice (some ⟨w7.heap.size, 0, none⟩) 1 1) rfl rfl (T := fun v' w' => St.Own w' w.heap.size v' (j.sts ++ [⟨nu, o⟩]) ∧ (w7.alloc (.cells #[.int .u32 nu, .int .u64 o] 104)).grownBy w' (Value.slice oa2 k cap2).ownBlock) (fun ty => HHR.out ty) ?_
                 rintro v8 w8 ⟨lo8, gr8⟩
                 have eb : Below w.heap.size w w8 := rb4.grown gr8 rb4.size (fun jj q => (World.ownsRow.lt HOS.out jj q).1)
                 have oB8 : Hid (OwnB w8 w.heap.size (.slice oa5 m5 cap5) (j.str.take D ++ nums t)) := ownsRow_grown HOB.out HOS.out (by decide) gr8
                 have f0 := row_at (Row.grown HQ3.out gr8 (row_apart HOS.out HQ3.out (by decide))) 0 _ rfl
                 clear gr8 rb4 HHR HOB HQ3))
            obtain ⟨oa8, cap8, hf8⟩ := lo8.form
            have hl8 : (j.sts ++ [(⟨nu, o⟩ : St.O)]).length = k + 1 := by simp [HI.out.len]
            rw [hl8] at hf8
            subst hf8
            go_roundw
            case rel => exact ⟨.int .u32 e, .slice oa5 m5 cap5, .slice oa8 (k + 1) cap8, .int .i64 k, .pointer (some ⟨gp, 0, none⟩), .int .i64 ((k : Int) + 1), ⟨k + 1, nextJ (baseJ os) j ⟨e, nu, o, t⟩, e, rfl, oa5, m5, cap5, rfl, oa8, cap8, rfl, by go_num, by omega, by rw [HNX.out]; exact oB8.out, lo8, HN2, fun q => absurd q (by omega), by show _ = _; rw [if_neg (by omega)]; rfl⟩, rfl, rfl, rfl, rfl, rfl, rfl⟩
            case measure => simp [intOf]; omega
    · obtain rfl : k = n := by omega
      have hkn' : ¬ (k : Int) < (k : Int) := by omega
      have HR : Hid (joinR n0 os = j) := HI.out.done (by rw [HN.out]; omega)
      have hl0 : Hid (j.sts.length = k) := HI.out.len
      have hk0 : ¬ k = 0 := hn0
      have HEE : Hid (j.ep = E) := by show _ = _; rw [HEQ.out, if_neg hk0]
      go_upto_region 14 with fail
      refine wp_region_held_drew (S := fun w' => OwnB w' w.heap.size (.slice oa1 m cap1) j.str) (by kernel_rfl) oB fun hS => ?_
      refine wpAnyH_take (i := 0) (v := .int .u64 b) rfl (by kernel_rfl) (by kernel_rfl) (by kernel_rfl) (fun _ _ _ h => h) (Or.inl ⟨by rfl, fun w _ => by rfl⟩) hS ?_
      try simp only [Act.put, List.getElem_toArray, List.getElem_cons_zero, List.getElem_cons_succ, List.setIfInBounds_toArray, List.set_cons_zero, List.set_cons_succ]
      refine wpAnyH_take (i := 1) (v := .slice oa1 m cap1) rfl (by kernel_rfl) (by kernel_rfl) (by kernel_rfl) (fun _ _ _ h => h) (Or.inl ⟨by rfl, fun w _ => by rfl⟩) hS ?_
      try simp only [Act.put, List.getElem_toArray, List.getElem_cons_zero, List.getElem_cons_succ, List.setIfInBounds_toArray, List.set_cons_zero, List.set_cons_succ]
      refine wpAnyH_take (i := 2) (v := .string (strOfNums j.str)) rfl (by kernel_rfl) (by kernel_rfl) (by kernel_rfl) (fun _ _ _ h => h) (Or.inl ⟨by rfl, fun w h => by have hx := OwnB.text h; go_simp⟩) hS ?_
      try simp only [Act.put, List.getElem_toArray, List.getElem_cons_zero, List.getElem_cons_succ, List.setIfInBounds_toArray, List.set_cons_zero, List.set_cons_succ]
      refine wpAnyH_take (i := 3) (v := .slice oa2 k cap2) rfl (by kernel_rfl) (by kernel_rfl) (by kernel_rfl) (fun _ _ _ h => h) (Or.inl ⟨by rfl, fun w _ => by rfl⟩) hS ?_
      try simp only [Act.put, List.getElem_toArray, List.getElem_cons_zero, List.getElem_cons_succ, List.setIfInBounds_toArray, List.set_cons_zero, List.set_cons_succ]
      refine wpAnyH_take (i := 4) (v := .int .u32 E) rfl (by kernel_rfl) (by kernel_rfl) (by kernel_rfl) (fun _ _ _ h => h) (Or.inl ⟨by rfl, fun w _ => by rfl⟩) hS ?_
      try simp only [Act.put, List.getElem_toArray, List.getElem_cons_zero, List.getElem_cons_succ, List.setIfInBounds_toArray, List.set_cons_zero, List.set_cons_succ]
      refine wpAnyH_take (i := 5) (v := .int .u64 b) rfl (by kernel_rfl) (by kernel_rfl) (by kernel_rfl) (fun _ _ _ h => h) (Or.inl ⟨by rfl, fun w _ => by rfl⟩) hS ?_
      try simp only [Act.put, List.getElem_toArray, List.getElem_cons_zero, List.getElem_cons_succ, List.setIfInBounds_toArray, List.set_cons_zero, List.set_cons_succ]
      refine wpAnyH_take (i := 6) (v := .string (strOfNums j.str)) rfl (by kernel_rfl) (by kernel_rfl) (by kernel_rfl) (fun _ _ _ h => h) (Or.inl ⟨by rfl, fun w _ => by rfl⟩) hS ?_
      try simp only [Act.put, List.getElem_toArray, List.getElem_cons_zero, List.getElem_cons_succ, List.setIfInBounds_toArray, List.set_cons_zero, List.set_cons_succ]
      refine wpAnyH_take (i := 7) (v := .slice oa2 k cap2) rfl (by kernel_rfl) (by kernel_rfl) (by kernel_rfl) (fun _ _ _ h => h) (Or.inl ⟨by rfl, fun w _ => by rfl⟩) hS ?_
      try simp only [Act.put, List.getElem_toArray, List.getElem_cons_zero, List.getElem_cons_succ, List.setIfInBounds_toArray, List.set_cons_zero, List.set_cons_succ]
      refine wpAnyH_take (i := 8) (v := .int .u32 E) rfl (by kernel_rfl) (by kernel_rfl) (by kernel_rfl) (fun _ _ _ h => h) (Or.inl ⟨by rfl, fun w _ => by rfl⟩) hS ?_
      try simp only [Act.put, List.getElem_toArray, List.getElem_cons_zero, List.getElem_cons_succ, List.setIfInBounds_toArray, List.set_cons_zero, List.set_cons_succ]
      refine wpAnyH_done (by kernel_rfl) ?_ _
      go_wp2
      (try simp only [Exit.inBlock, Exit.then]); refine bodyPost_ret (results_tmp4 rfl _ _ _) rfl ?_
      rw [HP.out]
      refine ⟨.slice oa2 k cap2, ?_, by rw [HR.out]; exact oS, Below.drew rb⟩
      rw [joinB_is HR.out, HR.out, hl0.out, if_neg hk0, HBJ.out, HEE.out]; rfl
end Go.Proofs.Ytgnedbagelhcbaa
