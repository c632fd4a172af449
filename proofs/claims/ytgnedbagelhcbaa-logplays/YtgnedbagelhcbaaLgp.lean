/-
  Proved here: log.Append.
-/
import Derived.Test.YtgnedbagelhcbaaLgl
namespace Go.Proofs.Ytgnedbagelhcbaa
open Go.ChangeShapes Go.WideShapes Go.ChangeAt Go.RowKit
set_option linter.unusedVariables false
set_option linter.unusedSimpArgs false
set_option maxRecDepth 20000
def Lg.sealN (l : Lg) : Nat → Lg
  | 0 => l
  | k + 1 => (l.sealN k).seal 214
def wantN (b : Int) : Int := (b + 213) / 214
def Lg.more (l : Lg) (F : ByteArray) : Lg := { l with open_ := l.open_ ++ F, fin := l.fin + F.size }
def Lg.app (l : Lg) (F : ByteArray) : Lg := (l.more F).sealN ((l.open_ ++ F).size / 214)
def fullA (l : Lg) (F : ByteArray) : Bool := decide (l.size < (l.last.length : Int) + l.sealed.length + wantN ((l.open_.size : Int) + F.size))
def LgAt (w : World) (gl : Nat) (pd vl vs : Value) (l : Lg) (w' : World) : Prop :=
  ∃ vs', Row w' gl (lcells pd vl vs' l) 102 ∧ Ck.Own w' (gl + 1) vs' l.sealed ∧ Off (fun j => j = gl ∨ vs.ownBlock = some j) w w' ∧ (∀ j, vs'.ownBlock = some j → vs.ownBlock = some j ∨ w.heap.size ≤ j)
def Appd (w : World) (gl : Nat) (pd vl vs : Value) (l : Lg) (s : ByteArray) (e : Ending) (w' : World) : Prop :=
  (okF s = false → e = .returned (.tuple #[.int .u64 0, .int .i64 1]) ∧ Below w.heap.size w w') ∧
  (okF s = true → fullA l (frS s) = true → e = .returned (.tuple #[.int .u64 0, .int .i64 5]) ∧ Below w.heap.size w w') ∧
  (okF s = true → fullA l (frS s) = false → e = .returned (.tuple #[.int .u64 l.fin, .int .i64 0]) ∧ LgAt w gl pd vl vs (l.app (frS s)) w')
theorem sealN_open (l : Lg) : ∀ k, k * 214 ≤ l.open_.size → (l.sealN k).open_.size = l.open_.size - k * 214
  | 0, _ => by simp [Lg.sealN]
  | k + 1, h => by
    have := sealN_open l k (by omega)
    show ((l.sealN k).open_.extract 214 (l.sealN k).open_.size).size = _
    rw [ByteArray.size_extract]; omega
theorem sealN_len (l : Lg) : ∀ k, (l.sealN k).sealed.length = l.sealed.length + k
  | 0 => rfl
  | k + 1 => by
    show ((l.sealN k).sealed ++ [_]).length = _
    rw [List.length_append, sealN_len l k]; rfl
theorem sealN_fin (l : Lg) : ∀ k, (l.sealN k).fin = l.fin
  | 0 => rfl
  | k + 1 => sealN_fin l k
theorem wrap32 (x : Int) : 0 ≤ IntKind.u32.wrap x ∧ IntKind.u32.wrap x ≤ 4294967295 := by rw [IntKind.wrap_u32]; omega
theorem sealN_next (l : Lg) (h : 0 ≤ l.next ∧ l.next ≤ 4294967295) : ∀ k, 0 ≤ (l.sealN k).next ∧ (l.sealN k).next ≤ 4294967295
  | 0 => h
  | k + 1 => wrap32 _
theorem LgAt.sealed {w wr : World} {gl : Nat} {pd vl vs : Value} {l : Lg} (h : LgAt w gl pd vl vs l wr) (N : Nat) (hN : N ≤ l.open_.size) (hs : l.sealed.length ≤ 900) (hf : (l.open_.size : Int) ≤ l.fin ∧ l.fin ≤ 18446744073709551615) (hx : 0 ≤ l.next ∧ l.next ≤ 4294967295) (hsz : l.open_.size ≤ 1000000000) :
    Calls Try.prog 46 #[.pointer (some ⟨gl, 0, none⟩), .int .i64 N] wr fun e w' => e = .returned (.tuple #[]) ∧ LgAt w gl pd vl vs (l.seal N) w' := by
  obtain ⟨vs', h1, h2, h3, h4⟩ := h
  refine (seal_any wr gl pd vl vs' l N h1 h2 hN hs hf hx hsz).mono ?_
  rintro e w' ⟨rfl, vs2, k1, k2, k3, k4⟩
  refine ⟨rfl, vs2, k1, k2, h3.trans k3 (fun j q => ?_), fun j q => ?_⟩
  · rcases q with q | q
    · exact Or.inl (Or.inl q)
    · rcases h4 j q with q | q
      · exact Or.inl (Or.inr q)
      · exact Or.inr q
  · rcases k4 j q with q | q
    · exact h4 j q
    · exact Or.inr (Nat.le_trans h3.size q)
theorem frS_no {s : ByteArray} (h : okF s = false) : frS s = { data := #[] } := by unfold frS; rw [h]; rfl
theorem frS_size {s : ByteArray} (h : okF s = true) : 7 ≤ (frS s).size ∧ (frS s).size ≤ 406 := by
  have h2 : 1 ≤ s.size ∧ s.size ≤ 400 := by have h3 := h; unfold okF at h3; exact of_decide_eq_true h3
  unfold frS
  rw [h, if_pos rfl]
  have : (strOfNums (frT s)).size = (frT s).length := strOfNums_size _
  rw [this, frT_length]; omega
set_option maxHeartbeats 8000000 in
theorem lapp_any (w : World) (gl : Nat) (pd vl vs : Value) (l : Lg) (s : ByteArray) (hr : Row w gl (lcells pd vl vs l) 102) (hu : OwnU w (gl + 1) vl l.last) (ho : Ck.Own w (gl + 1) vs l.sealed) (hs : s.size ≤ maxLen) (hla : l.last.length ≤ 1000000) (hsl : l.sealed.length ≤ 800) (hop : l.open_.size ≤ 10000) (hf : (l.open_.size : Int) ≤ l.fin ∧ l.fin ≤ 9223372036854775807) (hx : 0 ≤ l.next ∧ l.next ≤ 4294967295) :
    Calls Try.prog 13 #[.pointer (some ⟨gl, 0, none⟩), .string s] w fun e w' => Appd w gl pd vl vs l s e w' := by
  obtain ⟨PP, HPP⟩ : ∃ PP : Ending → World → Prop, Hid (PP = fun e w' => Appd w gl pd vl vs l s e w') := ⟨_, rfl⟩
  rw [← HPP.out]
  have HFR : Hid (∀ w, Calls Try.prog 41 #[.string s] w fun ex w' => ex = .returned (.string (frS s)) ∧ Below w.heap.size w w') := fun w => frame_any s w hs
  cases hk : okF s with
  | false =>
    have HK : Hid (∀ w', Below w.heap.size w w' → PP (.returned (.tuple #[.int .u64 0, .int .i64 1])) w') := fun w' h => by
      rw [HPP.out]
      exact ⟨fun _ => ⟨rfl, h⟩, (fun h' => by rw [hk] at h'; cases h'), (fun h' => by rw [hk] at h'; cases h')⟩
    rw [frS_no hk] at HFR
    clear hk hr hu ho
    go_enter Try.func13, Try.ntmps13
    go_wp2_with (go_at_call 41; refine Calls.mono (HFR.out _) ?_; clear HFR; rintro e w1 ⟨rfl, h1⟩)
    try go_ret
    exact HK.out _ h1
  | true =>
    have hF := frS_size hk
    have hFne := str_ne (frS s) (by omega)
    have hFne1 := hFne.1
    have hFne2 := hFne.2
    clear hFne
    obtain ⟨oa, ca, hv1⟩ := hu.form
    obtain ⟨ob, cb, hv2⟩ := ho.form
    subst hv1 hv2
    have HMD : Hid (∀ wa, Row wa gl (lcells pd (.slice oa l.last.length ca) (.slice ob l.sealed.length cb) l) 102 → Calls Try.prog 44 #[.pointer (some ⟨gl, 0, none⟩)] wa fun e w' => e = .returned (.int .i64 ((l.last.length : Int) + l.sealed.length)) ∧ Below wa.heap.size wa w') := fun wa h => made_any gl pd l oa ob _ _ ca cb wa h (by omega) (by omega)
    have HWT : Hid (∀ w, Calls Try.prog 45 #[.int .i64 ((l.open_.size : Int) + (frS s).size)] w fun e w' => e = .returned (.int .i64 (wantN ((l.open_.size : Int) + (frS s).size))) ∧ Below w.heap.size w w') := fun w => wanted_any _ w (by omega)
    have hWb : 0 ≤ wantN ((l.open_.size : Int) + (frS s).size) ∧ wantN ((l.open_.size : Int) + (frS s).size) ≤ 100 := by unfold wantN; omega
    have HFU : Hid (fullA l (frS s) = decide (l.size < (l.last.length : Int) + l.sealed.length + wantN ((l.open_.size : Int) + (frS s).size))) := rfl
    have HK5 : Hid (fullA l (frS s) = true → ∀ w', Below w.heap.size w w' → PP (.returned (.tuple #[.int .u64 0, .int .i64 5])) w') := fun hq w' h => by
      rw [HPP.out]
      exact ⟨(fun h' => by rw [hk] at h'; cases h'), fun _ _ => ⟨rfl, h⟩, (fun _ h' => by rw [hq] at h'; cases h')⟩
    have HK0 : Hid (fullA l (frS s) = false → ∀ w', LgAt w gl pd (.slice oa l.last.length ca) (.slice ob l.sealed.length cb) (l.app (frS s)) w' → PP (.returned (.tuple #[.int .u64 l.fin, .int .i64 0])) w') := fun hq w' h => by
      rw [HPP.out]
      exact ⟨(fun h' => by rw [hk] at h'; cases h'), (fun _ h' => by rw [hq] at h'; cases h'), fun _ _ => ⟨rfl, h⟩⟩
    clear HPP hk hs
    generalize frS s = F at *
    generalize wantN ((l.open_.size : Int) + F.size) = WT at *
    obtain ⟨a, z, ep, la, sl, op, nx, fr, fi, du⟩ := l
    simp only at *
    have ho : Ck.Own w (gl + 1) (.slice ob sl.length cb) sl := ho
    obtain ⟨n, HNn⟩ : ∃ n, Hid (la.length = n) := ⟨_, rfl⟩
    obtain ⟨m, HMm⟩ : ∃ m, Hid (sl.length = m) := ⟨_, rfl⟩
    rw [HNn.out] at hr HMD HFU HK0 hla
    rw [HMm.out] at hr HMD HFU HK0 hsl ho
    unfold lcells at hr HMD
    simp only at hr HMD
    have v1 : IntKind.i64.wrap ((op.size : Int) + F.size) = (op.size : Int) + F.size := by rw [IntKind.wrap_i64]; omega
    have v2 : IntKind.i64.wrap ((n : Int) + m + WT) = (n : Int) + m + WT := by rw [IntKind.wrap_i64]; omega
    go_enter Try.func13, Try.ntmps13
    go_upto_region 4 with (go_at_call 41; refine Calls.mono (HFR.out _) ?_; clear HFR; rintro e w1 ⟨rfl, h1⟩; have s0 := hr.below h1 hr.lt; have sb := h1; have so := ho.keep h1)
    by_cases hfull : z < (n : Int) + m + WT
    · have hq : fullA ⟨a, z, ep, la, sl, op, nx, fr, fi, du⟩ F = true := by rw [HFU.out]; exact decide_eq_true hfull
      have HK := HK5.out hq
      have HK : Hid _ := HK
      clear HK5 HK0 HFU hq
      refine wp_region_held_drew (S := fun w' => Row w' gl #[pd, .int .i64 a, .int .i64 z, .int .u32 ep, .slice oa n ca, .slice ob m cb, .string op, .int .u32 nx, .bool fr, .int .u64 fi, .int .u64 du] 102 ∧ Below w.heap.size w w') (by kernel_rfl) ⟨s0, sb.drew⟩ fun hS => ?_
      clear s0 sb
      generalize w1.drew = W0 at hS ⊢
      refine wpAnyH_take (i := 0) (v := .pointer (some ⟨gl, 0, none⟩)) rfl (by kernel_rfl) (by kernel_rfl) (by kernel_rfl) (fun _ _ _ h => h) (Or.inl ⟨by rfl, fun w _ => by go_simp⟩) hS ?_
      try simp only [Act.put, nz0, nz1, nz2, nz3, nz4, nz5]
      refine wpAnyH_take (i := 2) (v := .pointer (some ⟨gl, 0, none⟩)) rfl (by kernel_rfl) (by kernel_rfl) (by kernel_rfl) (fun _ _ _ h => h) (Or.inl ⟨by rfl, fun w _ => by go_simp⟩) hS ?_
      try simp only [Act.put, nz0, nz1, nz2, nz3, nz4, nz5]
      refine wpAnyH_take (i := 3) (v := .pointer (some ⟨gl, 0, none⟩)) rfl (by kernel_rfl) (by kernel_rfl) (by kernel_rfl) (fun _ _ _ h => h) (Or.inl ⟨by rfl, fun w _ => by go_simp⟩) hS ?_
      try simp only [Act.put, nz0, nz1, nz2, nz3, nz4, nz5]
      refine wpAnyH_take (i := 4) (v := .pointer (some ⟨gl, 6, none⟩)) rfl (by kernel_rfl) (by kernel_rfl) (by kernel_rfl) (fun _ _ _ h => h) (Or.inl ⟨by rfl, fun w _ => by go_simp⟩) hS ?_
      try simp only [Act.put, nz0, nz1, nz2, nz3, nz4, nz5]
      refine wpAnyH_take (i := 5) (v := .string op) rfl (by kernel_rfl) (by kernel_rfl) (by kernel_rfl) (fun _ _ _ h => h) (Or.inl ⟨by rfl, fun w h => by have c := row_at h.1 6 _ rfl; go_simp⟩) hS ?_
      try simp only [Act.put, nz0, nz1, nz2, nz3, nz4, nz5]
      refine wpAnyH_take (i := 6) (v := .int .i64 op.size) rfl (by kernel_rfl) (by kernel_rfl) (by kernel_rfl) (fun _ _ _ h => h) (Or.inl ⟨by rfl, fun w _ => by go_simp⟩) hS ?_
      try simp only [Act.put, nz0, nz1, nz2, nz3, nz4, nz5]
      refine wpAnyH_take (i := 7) (v := .string F) rfl (by kernel_rfl) (by kernel_rfl) (by kernel_rfl) (fun _ _ _ h => h) (Or.inl ⟨by rfl, fun w _ => by go_simp⟩) hS ?_
      try simp only [Act.put, nz0, nz1, nz2, nz3, nz4, nz5]
      refine wpAnyH_take (i := 8) (v := .int .i64 F.size) rfl (by kernel_rfl) (by kernel_rfl) (by kernel_rfl) (fun _ _ _ h => h) (Or.inl ⟨by rfl, fun w _ => by go_simp⟩) hS ?_
      try simp only [Act.put, nz0, nz1, nz2, nz3, nz4, nz5]
      refine wpAnyH_take (i := 9) (v := .int .i64 ((op.size : Int) + F.size)) rfl (by kernel_rfl) (by kernel_rfl) (by kernel_rfl) (fun _ _ _ h => h) (Or.inl ⟨by rfl, fun w _ => by go_simp⟩) hS ?_
      try simp only [Act.put, nz0, nz1, nz2, nz3, nz4, nz5]
      refine wpAnyH_take (i := 12) (v := .pointer (some ⟨gl, 0, none⟩)) rfl (by kernel_rfl) (by kernel_rfl) (by kernel_rfl) (fun _ _ _ h => h) (Or.inl ⟨by rfl, fun w _ => by go_simp⟩) hS ?_
      try simp only [Act.put, nz0, nz1, nz2, nz3, nz4, nz5]
      refine wpAnyH_take (i := 13) (v := .pointer (some ⟨gl, 0, none⟩)) rfl (by kernel_rfl) (by kernel_rfl) (by kernel_rfl) (fun _ _ _ h => h) (Or.inl ⟨by rfl, fun w _ => by go_simp⟩) hS ?_
      try simp only [Act.put, nz0, nz1, nz2, nz3, nz4, nz5]
      refine wpAnyH_take (i := 14) (v := .pointer (some ⟨gl, 0, none⟩)) rfl (by kernel_rfl) (by kernel_rfl) (by kernel_rfl) (fun _ _ _ h => h) (Or.inl ⟨by rfl, fun w _ => by go_simp⟩) hS ?_
      try simp only [Act.put, nz0, nz1, nz2, nz3, nz4, nz5]
      refine wpAnyH_take (i := 15) (v := .pointer (some ⟨gl, 2, none⟩)) rfl (by kernel_rfl) (by kernel_rfl) (by kernel_rfl) (fun _ _ _ h => h) (Or.inl ⟨by rfl, fun w _ => by go_simp⟩) hS ?_
      try simp only [Act.put, nz0, nz1, nz2, nz3, nz4, nz5]
      refine wpAnyH_take (i := 16) (v := .int .i64 z) rfl (by kernel_rfl) (by kernel_rfl) (by kernel_rfl) (fun _ _ _ h => h) (Or.inl ⟨by rfl, fun w h => by have c := row_at h.1 2 _ rfl; go_simp⟩) hS ?_
      try simp only [Act.put, nz0, nz1, nz2, nz3, nz4, nz5]
      refine wpAnyH_ready (rs := [1]) (by kernel_rfl) (by simp) ?_
      refine AllReadyH.cons rfl (fun K hK => ?_) AllReadyH.nil
      go_simp
      go_at_call 44
      refine Calls.mono (HMD.out _ hS.1) ?_
      rintro e w1_1 ⟨rfl, hcb⟩
      refine hK.out _ _ (⟨hS.1.below hcb hS.1.lt, hS.2.trans (hcb.mono hS.2.size)⟩) fun hS => ?_
      try simp only [Act.put, nz0, nz1, nz2, nz3, nz4, nz5]
      clear hcb
      refine wpAnyH_ready (rs := [10]) (by kernel_rfl) (by simp) ?_
      refine AllReadyH.cons rfl (fun K hK => ?_) AllReadyH.nil
      go_simp
      go_at_call 45
      refine Calls.mono (HWT.out _) ?_
      rintro e w2_10 ⟨rfl, hcb⟩
      refine hK.out _ _ (⟨hS.1.below hcb hS.1.lt, hS.2.trans (hcb.mono hS.2.size)⟩) fun hS => ?_
      try simp only [Act.put, nz0, nz1, nz2, nz3, nz4, nz5]
      clear hcb
      refine wpAnyH_take (i := 11) (v := .int .i64 ((n : Int) + m + WT)) rfl (by kernel_rfl) (by kernel_rfl) (by kernel_rfl) (fun _ _ _ h => h) (Or.inl ⟨by rfl, fun w _ => by go_simp⟩) hS ?_
      try simp only [Act.put, nz0, nz1, nz2, nz3, nz4, nz5]
      refine wpAnyH_take (i := 17) (v := .bool true) rfl (by kernel_rfl) (by kernel_rfl) (by kernel_rfl) (fun _ _ _ h => h) (Or.inl ⟨by rfl, fun w _ => by go_simp⟩) hS ?_
      try simp only [Act.put, nz0, nz1, nz2, nz3, nz4, nz5]
      refine wpAnyH_done (by kernel_rfl) ?_ _
      go_wp2
      try go_ret
      first
        | exact HK.out _ hS.2
        | exact hS.2
    · have hq : fullA ⟨a, z, ep, la, sl, op, nx, fr, fi, du⟩ F = false := by rw [HFU.out]; exact decide_eq_false hfull
      have HK := HK0.out hq
      have HK : Hid _ := HK
      clear HK5 HK0 HFU hq
      refine wp_region_held_drew (S := fun w' => Row w' gl #[pd, .int .i64 a, .int .i64 z, .int .u32 ep, .slice oa n ca, .slice ob m cb, .string op, .int .u32 nx, .bool fr, .int .u64 fi, .int .u64 du] 102 ∧ Below w.heap.size w w') (by kernel_rfl) ⟨s0, sb.drew⟩ fun hS => ?_
      clear s0 sb
      generalize w1.drew = W0 at hS ⊢
      refine wpAnyH_take (i := 0) (v := .pointer (some ⟨gl, 0, none⟩)) rfl (by kernel_rfl) (by kernel_rfl) (by kernel_rfl) (fun _ _ _ h => h) (Or.inl ⟨by rfl, fun w _ => by go_simp⟩) hS ?_
      try simp only [Act.put, nz0, nz1, nz2, nz3, nz4, nz5]
      refine wpAnyH_take (i := 2) (v := .pointer (some ⟨gl, 0, none⟩)) rfl (by kernel_rfl) (by kernel_rfl) (by kernel_rfl) (fun _ _ _ h => h) (Or.inl ⟨by rfl, fun w _ => by go_simp⟩) hS ?_
      try simp only [Act.put, nz0, nz1, nz2, nz3, nz4, nz5]
      refine wpAnyH_take (i := 3) (v := .pointer (some ⟨gl, 0, none⟩)) rfl (by kernel_rfl) (by kernel_rfl) (by kernel_rfl) (fun _ _ _ h => h) (Or.inl ⟨by rfl, fun w _ => by go_simp⟩) hS ?_
      try simp only [Act.put, nz0, nz1, nz2, nz3, nz4, nz5]
      refine wpAnyH_take (i := 4) (v := .pointer (some ⟨gl, 6, none⟩)) rfl (by kernel_rfl) (by kernel_rfl) (by kernel_rfl) (fun _ _ _ h => h) (Or.inl ⟨by rfl, fun w _ => by go_simp⟩) hS ?_
      try simp only [Act.put, nz0, nz1, nz2, nz3, nz4, nz5]
      refine wpAnyH_take (i := 5) (v := .string op) rfl (by kernel_rfl) (by kernel_rfl) (by kernel_rfl) (fun _ _ _ h => h) (Or.inl ⟨by rfl, fun w h => by have c := row_at h.1 6 _ rfl; go_simp⟩) hS ?_
      try simp only [Act.put, nz0, nz1, nz2, nz3, nz4, nz5]
      refine wpAnyH_take (i := 6) (v := .int .i64 op.size) rfl (by kernel_rfl) (by kernel_rfl) (by kernel_rfl) (fun _ _ _ h => h) (Or.inl ⟨by rfl, fun w _ => by go_simp⟩) hS ?_
      try simp only [Act.put, nz0, nz1, nz2, nz3, nz4, nz5]
      refine wpAnyH_take (i := 7) (v := .string F) rfl (by kernel_rfl) (by kernel_rfl) (by kernel_rfl) (fun _ _ _ h => h) (Or.inl ⟨by rfl, fun w _ => by go_simp⟩) hS ?_
      try simp only [Act.put, nz0, nz1, nz2, nz3, nz4, nz5]
      refine wpAnyH_take (i := 8) (v := .int .i64 F.size) rfl (by kernel_rfl) (by kernel_rfl) (by kernel_rfl) (fun _ _ _ h => h) (Or.inl ⟨by rfl, fun w _ => by go_simp⟩) hS ?_
      try simp only [Act.put, nz0, nz1, nz2, nz3, nz4, nz5]
      refine wpAnyH_take (i := 9) (v := .int .i64 ((op.size : Int) + F.size)) rfl (by kernel_rfl) (by kernel_rfl) (by kernel_rfl) (fun _ _ _ h => h) (Or.inl ⟨by rfl, fun w _ => by go_simp⟩) hS ?_
      try simp only [Act.put, nz0, nz1, nz2, nz3, nz4, nz5]
      refine wpAnyH_take (i := 12) (v := .pointer (some ⟨gl, 0, none⟩)) rfl (by kernel_rfl) (by kernel_rfl) (by kernel_rfl) (fun _ _ _ h => h) (Or.inl ⟨by rfl, fun w _ => by go_simp⟩) hS ?_
      try simp only [Act.put, nz0, nz1, nz2, nz3, nz4, nz5]
      refine wpAnyH_take (i := 13) (v := .pointer (some ⟨gl, 0, none⟩)) rfl (by kernel_rfl) (by kernel_rfl) (by kernel_rfl) (fun _ _ _ h => h) (Or.inl ⟨by rfl, fun w _ => by go_simp⟩) hS ?_
      try simp only [Act.put, nz0, nz1, nz2, nz3, nz4, nz5]
      refine wpAnyH_take (i := 14) (v := .pointer (some ⟨gl, 0, none⟩)) rfl (by kernel_rfl) (by kernel_rfl) (by kernel_rfl) (fun _ _ _ h => h) (Or.inl ⟨by rfl, fun w _ => by go_simp⟩) hS ?_
      try simp only [Act.put, nz0, nz1, nz2, nz3, nz4, nz5]
      refine wpAnyH_take (i := 15) (v := .pointer (some ⟨gl, 2, none⟩)) rfl (by kernel_rfl) (by kernel_rfl) (by kernel_rfl) (fun _ _ _ h => h) (Or.inl ⟨by rfl, fun w _ => by go_simp⟩) hS ?_
      try simp only [Act.put, nz0, nz1, nz2, nz3, nz4, nz5]
      refine wpAnyH_take (i := 16) (v := .int .i64 z) rfl (by kernel_rfl) (by kernel_rfl) (by kernel_rfl) (fun _ _ _ h => h) (Or.inl ⟨by rfl, fun w h => by have c := row_at h.1 2 _ rfl; go_simp⟩) hS ?_
      try simp only [Act.put, nz0, nz1, nz2, nz3, nz4, nz5]
      refine wpAnyH_ready (rs := [1]) (by kernel_rfl) (by simp) ?_
      refine AllReadyH.cons rfl (fun K hK => ?_) AllReadyH.nil
      go_simp
      go_at_call 44
      refine Calls.mono (HMD.out _ hS.1) ?_
      rintro e w1_1 ⟨rfl, hcb⟩
      refine hK.out _ _ (⟨hS.1.below hcb hS.1.lt, hS.2.trans (hcb.mono hS.2.size)⟩) fun hS => ?_
      try simp only [Act.put, nz0, nz1, nz2, nz3, nz4, nz5]
      clear hcb
      refine wpAnyH_ready (rs := [10]) (by kernel_rfl) (by simp) ?_
      refine AllReadyH.cons rfl (fun K hK => ?_) AllReadyH.nil
      go_simp
      go_at_call 45
      refine Calls.mono (HWT.out _) ?_
      rintro e w2_10 ⟨rfl, hcb⟩
      refine hK.out _ _ (⟨hS.1.below hcb hS.1.lt, hS.2.trans (hcb.mono hS.2.size)⟩) fun hS => ?_
      try simp only [Act.put, nz0, nz1, nz2, nz3, nz4, nz5]
      clear hcb
      refine wpAnyH_take (i := 11) (v := .int .i64 ((n : Int) + m + WT)) rfl (by kernel_rfl) (by kernel_rfl) (by kernel_rfl) (fun _ _ _ h => h) (Or.inl ⟨by rfl, fun w _ => by go_simp⟩) hS ?_
      try simp only [Act.put, nz0, nz1, nz2, nz3, nz4, nz5]
      refine wpAnyH_take (i := 17) (v := .bool false) rfl (by kernel_rfl) (by kernel_rfl) (by kernel_rfl) (fun _ _ _ h => h) (Or.inl ⟨by rfl, fun w _ => by go_simp⟩) hS ?_
      try simp only [Act.put, nz0, nz1, nz2, nz3, nz4, nz5]
      refine wpAnyH_done (by kernel_rfl) ?_ _
      have c6 := row_at hS.1 6 _ rfl
      have c9 := row_at hS.1 9 _ rfl
      have f6 := row_frozen hS.1 6
      have hO1 : Off (fun j => j = gl ∨ (Value.slice ob m cb).ownBlock = some j) w w2_10 := Off.of_below hS.2
      have own2 : Ck.Own w2_10 (gl + 1) (.slice ob m cb) sl := ho.keep hS.2
      have R6 : Row (w2_10.setCell ⟨gl, 6, none⟩ (.string (op ++ F))) gl #[pd, .int .i64 a, .int .i64 z, .int .u32 ep, .slice oa n ca, .slice ob m cb, .string (op ++ F), .int .u32 nx, .bool fr, .int .u64 fi, .int .u64 du] 102 := row_set hS.1 6 _
      have own6 : Ck.Own (w2_10.setCell ⟨gl, 6, none⟩ (.string (op ++ F))) (gl + 1) (.slice ob m cb) sl := own2.other gl 6 _ (by omega)
      have O6 := hO1.trans (Off.of_setCell (F := (· = gl)) w2_10 ⟨gl, 6, none⟩ (.string (op ++ F)) rfl) (fun j q => Or.inl (Or.inl q))
      go_upto_region 8 with fail
      clear hS c6 c9 f6 own2 hO1
      generalize w2_10.setCell ⟨gl, 6, none⟩ (.string (op ++ F)) = w7 at R6 own6 O6 ⊢
      have c9 := row_at R6 9 _ rfl
      have f9 := row_frozen R6 9
      have R9 : Row (w7.setCell ⟨gl, 9, none⟩ (.int .u64 (fi + F.size))) gl (lcells pd (.slice oa n ca) (.slice ob m cb) (Lg.more ⟨a, z, ep, la, sl, op, nx, fr, fi, du⟩ F)) 102 := row_set R6 9 _
      have own9 : Ck.Own (w7.setCell ⟨gl, 9, none⟩ (.int .u64 (fi + F.size))) (gl + 1) (.slice ob m cb) sl := own6.other gl 9 _ (by omega)
      have O9 := O6.trans (Off.of_setCell (F := (· = gl)) w7 ⟨gl, 9, none⟩ (.int .u64 (fi + F.size)) rfl) (fun j q => Or.inl (Or.inl q))
      have v3 : IntKind.u64.wrap (F.size : Int) = F.size := by rw [IntKind.wrap_u64]; omega
      have v4 : IntKind.u64.wrap (fi + F.size) = fi + F.size := by rw [IntKind.wrap_u64]; omega
      go_upto_region 9 with fail
      clear c9 f9 R6 own6 O6
      generalize w7.setCell ⟨gl, 9, none⟩ (.int .u64 (fi + F.size)) = w8 at R9 own9 O9 ⊢
      have HL0 : Hid (LgAt w gl pd (.slice oa n ca) (.slice ob m cb) ((Lg.more ⟨a, z, ep, la, sl, op, nx, fr, fi, du⟩ F).sealN 0) w8) := ⟨_, R9, own9, O9, fun j hj => Or.inl hj⟩
      have c6 : w8.cell? ⟨gl, 6, none⟩ = some (.string (op ++ F)) := row_at R9 6 _ rfl
      have hsz2 : (op ++ F).size = op.size + F.size := ByteArray.size_append
      have hq : ((op ++ F).size : Int).tdiv 214 = (((op ++ F).size / 214 : Nat) : Int) := by rw [Int.tdiv_eq_ediv_of_nonneg (by omega)]; omega
      have hq2 : ((op.size : Int) + F.size) / 214 = (((op ++ F).size / 214 : Nat) : Int) := by rw [hsz2]; omega
      have HAP : Hid (Lg.app ⟨a, z, ep, la, sl, op, nx, fr, fi, du⟩ F = (Lg.more ⟨a, z, ep, la, sl, op, nx, fr, fi, du⟩ F).sealN ((op ++ F).size / 214)) := rfl
      have HB : Hid ((Lg.more ⟨a, z, ep, la, sl, op, nx, fr, fi, du⟩ F).open_.size = op.size + F.size ∧ (Lg.more ⟨a, z, ep, la, sl, op, nx, fr, fi, du⟩ F).sealed.length = m ∧ (Lg.more ⟨a, z, ep, la, sl, op, nx, fr, fi, du⟩ F).fin = fi + F.size ∧ (Lg.more ⟨a, z, ep, la, sl, op, nx, fr, fi, du⟩ F).next = nx) := ⟨hsz2, HMm.out, rfl, rfl⟩
      have HCE : Hid (∀ k w', LgAt w gl pd (.slice oa n ca) (.slice ob m cb) ((Lg.more ⟨a, z, ep, la, sl, op, nx, fr, fi, du⟩ F).sealN k) w' → k < (op ++ F).size / 214 → Calls Try.prog 46 #[.pointer (some ⟨gl, 0, none⟩), .int .i64 214] w' fun e w2 => e = .returned (.tuple #[]) ∧ LgAt w gl pd (.slice oa n ca) (.slice ob m cb) ((Lg.more ⟨a, z, ep, la, sl, op, nx, fr, fi, du⟩ F).sealN (k + 1)) w2) := fun k w' h hk => by
        obtain ⟨h1, h2, h3, h4⟩ := HB.out
        have e1 := sealN_open (Lg.more ⟨a, z, ep, la, sl, op, nx, fr, fi, du⟩ F) k (by rw [h1]; omega)
        have e2 := sealN_len (Lg.more ⟨a, z, ep, la, sl, op, nx, fr, fi, du⟩ F) k
        have e3 := sealN_fin (Lg.more ⟨a, z, ep, la, sl, op, nx, fr, fi, du⟩ F) k
        have e4 := sealN_next (Lg.more ⟨a, z, ep, la, sl, op, nx, fr, fi, du⟩ F) (by rw [h4]; exact hx) k
        exact LgAt.sealed h 214 (by rw [e1, h1]; omega) (by rw [e2, h2]; omega) (by rw [e3, h3, e1, h1]; omega) e4 (by rw [e1, h1]; omega)
      clear R9 own9 O9 HMD HWT HMm HNn ho hr
      generalize Lg.more ⟨a, z, ep, la, sl, op, nx, fr, fi, du⟩ F = l1 at HL0 HAP HCE HB
      generalize (op ++ F).size / 214 = KK at hq hq2 HAP HCE
      go_wp2
      go_loopw [62] (fun i wr => ∃ (k : Nat), k ≤ KK ∧ i = .int .i64 k ∧ LgAt w gl pd (.slice oa n ca) (.slice ob m cb) (l1.sealN k) wr) (fun i _ => KK - (intOf i).toNat)
      case atStart => exact ⟨0, by omega, rfl, HL0.out⟩
      case round =>
        clear HL0
        obtain ⟨k, hk, rfl, hA⟩ := hrel
        by_cases hkk : k < KK
        · have hkk' : (k : Int) < (KK : Int) := by omega
          have HC : Hid _ := HCE.out k wr hA hkk
          clear hA
          go_wp2_with (go_at_call 46; refine Calls.mono HC.out ?_; clear HC; rintro e w10 ⟨rfl, hA⟩)
          go_roundw
          case rel => exact ⟨k + 1, by omega, by go_num, hA⟩
          case measure => simp [intOf]; omega
        · obtain rfl : KK = k := by omega
          have hkk' : ¬ (KK : Int) < (KK : Int) := by omega
          go_wp2
          try go_ret
          first
            | exact HK.out _ (by rw [HAP.out]; exact hA)
            | (rw [HAP.out]; exact hA)
end Go.Proofs.Ytgnedbagelhcbaa
