/-
  Proved here: log.Append. Proved here: log.Scan. Proved here: what a log that isn't there answers, and a scan of a disk that isn't. Proved here: where a log's stream ends, and up to where it lasts. Proved here: how many of a log's blocks that last hold nothing from a place on. A log and its disk in memory; what stays so behind seal and lay. What Flush leaves, plainly: the ways through it.
-/
import Derived.Test.YtehogiondcpbcaaJq12
namespace Go.Proofs.Ytehogiondcpbcaa
open Go.ChangeShapes Go.WideShapes Go.ChangeAt Go.RowKit
set_option linter.unusedVariables false
set_option linter.unusedSimpArgs false
set_option maxRecDepth 20000
def Lg.sealN (l : Lg) : Nat → Lg
  | 0 => l
  | k + 1 => (l.sealN k).seal 214
def wantN (b : Int) : Int := (b + 213) / 214
def Lg.more (l : Lg) (F : ByteArray) : Lg := { l with open_ := l.open_ ++ F, fin := l.fin + F.size }
def Lg.app (l : Lg) (F : ByteArray) : Lg := (l.more F).sealN ((l.open_ ++ F).size / 214)
def fullA (l : Lg) (F : ByteArray) : Bool := decide (l.size < (l.last.length : Int) + l.sealed.length + wantN ((l.open_.size : Int) + F.size))
def LgAt (w : World) (gl : Nat) (pd vl vs : Value) (l : Lg) (w' : World) : Prop :=
  ∃ vs', Row w' gl (lcells pd vl vs' l) 99 ∧ Ck.Own w' (gl + 1) vs' l.sealed ∧ Off (fun j => j = gl ∨ vs.ownBlock = some j) w w' ∧ (∀ j, vs'.ownBlock = some j → vs.ownBlock = some j ∨ w.heap.size ≤ j)
def Appd (w : World) (gl : Nat) (pd vl vs : Value) (l : Lg) (s : ByteArray) (e : Ending) (w' : World) : Prop :=
  (okF s = false → e = .returned (.tuple #[.int .u64 0, .int .i64 1]) ∧ Below w.heap.size w w') ∧
  (okF s = true → fullA l (frS s) = true → e = .returned (.tuple #[.int .u64 0, .int .i64 5]) ∧ Below w.heap.size w w') ∧
  (okF s = true → fullA l (frS s) = false → e = .returned (.tuple #[.int .u64 l.fin, .int .i64 0]) ∧ LgAt w gl pd vl vs (l.app (frS s)) w')
theorem sealN_open (l : Lg) : ∀ k, k * 214 ≤ l.open_.size → (l.sealN k).open_.size = l.open_.size - k * 214
  | 0, _ => by simp [Lg.sealN]
  | k + 1, h => by
    have := sealN_open l k (by omega)
    show ((l.sealN k).open_.extract 214 (l.sealN k).open_.size).size = _
    rw [ByteArray.size_extract]; omega
theorem sealN_len (l : Lg) : ∀ k, (l.sealN k).sealed.length = l.sealed.length + k
  | 0 => rfl
  | k + 1 => by
    show ((l.sealN k).sealed ++ [_]).length = _
    rw [List.length_append, sealN_len l k]; rfl
theorem sealN_fin (l : Lg) : ∀ k, (l.sealN k).fin = l.fin
  | 0 => rfl
  | k + 1 => sealN_fin l k
theorem wrap32 (x : Int) : 0 ≤ IntKind.u32.wrap x ∧ IntKind.u32.wrap x ≤ 4294967295 := by rw [IntKind.wrap_u32]; omega
theorem sealN_next (l : Lg) (h : 0 ≤ l.next ∧ l.next ≤ 4294967295) : ∀ k, 0 ≤ (l.sealN k).next ∧ (l.sealN k).next ≤ 4294967295
  | 0 => h
  | k + 1 => wrap32 _
theorem LgAt.sealed {w wr : World} {gl : Nat} {pd vl vs : Value} {l : Lg} (h : LgAt w gl pd vl vs l wr) (N : Nat) (hN : N ≤ l.open_.size) (hs : l.sealed.length ≤ 900) (hf : (l.open_.size : Int) ≤ l.fin ∧ l.fin ≤ 18446744073709551615) (hx : 0 ≤ l.next ∧ l.next ≤ 4294967295) (hsz : l.open_.size ≤ 1000000000) :
    Calls Try.prog 52 #[.pointer (some ⟨gl, 0, none⟩), .int .i64 N] wr fun e w' => e = .returned (.tuple #[]) ∧ LgAt w gl pd vl vs (l.seal N) w' := by
  obtain ⟨vs', h1, h2, h3, h4⟩ := h
  refine (seal_any wr gl pd vl vs' l N h1 h2 hN hs hf hx hsz).mono ?_
  rintro e w' ⟨rfl, vs2, k1, k2, k3, k4⟩
  refine ⟨rfl, vs2, k1, k2, h3.trans k3 (fun j q => ?_), fun j q => ?_⟩
  · rcases q with q | q
    · exact Or.inl (Or.inl q)
    · rcases h4 j q with q | q
      · exact Or.inl (Or.inr q)
      · exact Or.inr q
  · rcases k4 j q with q | q
    · exact h4 j q
    · exact Or.inr (Nat.le_trans h3.size q)
theorem frS_no {s : ByteArray} (h : okF s = false) : frS s = { data := #[] } := by unfold frS; rw [h]; rfl
theorem frS_size {s : ByteArray} (h : okF s = true) : 7 ≤ (frS s).size ∧ (frS s).size ≤ 406 := by
  have h2 : 1 ≤ s.size ∧ s.size ≤ 400 := by have h3 := h; unfold okF at h3; exact of_decide_eq_true h3
  unfold frS
  rw [h, if_pos rfl]
  have : (strOfNums (frT s)).size = (frT s).length := strOfNums_size _
  rw [this, frT_length]; omega
set_option maxHeartbeats 8000000 in
theorem lapp_any (w : World) (gl : Nat) (pd vl vs : Value) (l : Lg) (s : ByteArray) (hr : Row w gl (lcells pd vl vs l) 99) (hu : OwnU w (gl + 1) vl l.last) (ho : Ck.Own w (gl + 1) vs l.sealed) (hs : s.size ≤ maxLen) (hla : l.last.length ≤ 1000000) (hsl : l.sealed.length ≤ 800) (hop : l.open_.size ≤ 10000) (hf : (l.open_.size : Int) ≤ l.fin ∧ l.fin ≤ 9223372036854775807) (hx : 0 ≤ l.next ∧ l.next ≤ 4294967295) :
    Calls Try.prog 17 #[.pointer (some ⟨gl, 0, none⟩), .string s] w fun e w' => Appd w gl pd vl vs l s e w' := by
  obtain ⟨PP, HPP⟩ : ∃ PP : Ending → World → Prop, Hid (PP = fun e w' => Appd w gl pd vl vs l s e w') := ⟨_, rfl⟩
  rw [← HPP.out]
  have HFR : Hid (∀ w, Calls Try.prog 49 #[.string s] w fun ex w' => ex = .returned (.string (frS s)) ∧ Below w.heap.size w w') := fun w => frame_any s w hs
  cases hk : okF s with
  | false =>
    have HK : Hid (∀ w', Below w.heap.size w w' → PP (.returned (.tuple #[.int .u64 0, .int .i64 1])) w') := fun w' h => by
      rw [HPP.out]
      exact ⟨fun _ => ⟨rfl, h⟩, (fun h' => by rw [hk] at h'; cases h'), (fun h' => by rw [hk] at h'; cases h')⟩
    rw [frS_no hk] at HFR
    clear hk hr hu ho
    go_enter Try.func17, Try.ntmps17
    go_wp2_with (go_at_call 49; refine Calls.mono (HFR.out _) ?_; clear HFR; rintro e w1 ⟨rfl, h1⟩)
    try go_ret
    exact HK.out _ h1
  | true =>
    have hF := frS_size hk
    have hFne := str_ne (frS s) (by omega)
    have hFne1 := hFne.1
    have hFne2 := hFne.2
    clear hFne
    obtain ⟨oa, ca, hv1⟩ := hu.form
    obtain ⟨ob, cb, hv2⟩ := ho.form
    subst hv1 hv2
    have HMD : Hid (∀ wa, Row wa gl (lcells pd (.slice oa l.last.length ca) (.slice ob l.sealed.length cb) l) 99 → Calls Try.prog 50 #[.pointer (some ⟨gl, 0, none⟩)] wa fun e w' => e = .returned (.int .i64 ((l.last.length : Int) + l.sealed.length)) ∧ Below wa.heap.size wa w') := fun wa h => made_any gl pd l oa ob _ _ ca cb wa h (by omega) (by omega)
    have HWT : Hid (∀ w, Calls Try.prog 51 #[.int .i64 ((l.open_.size : Int) + (frS s).size)] w fun e w' => e = .returned (.int .i64 (wantN ((l.open_.size : Int) + (frS s).size))) ∧ Below w.heap.size w w') := fun w => wanted_any _ w (by omega)
    have hWb : 0 ≤ wantN ((l.open_.size : Int) + (frS s).size) ∧ wantN ((l.open_.size : Int) + (frS s).size) ≤ 100 := by unfold wantN; omega
    have HFU : Hid (fullA l (frS s) = decide (l.size < (l.last.length : Int) + l.sealed.length + wantN ((l.open_.size : Int) + (frS s).size))) := rfl
    have HK5 : Hid (fullA l (frS s) = true → ∀ w', Below w.heap.size w w' → PP (.returned (.tuple #[.int .u64 0, .int .i64 5])) w') := fun hq w' h => by
      rw [HPP.out]
      exact ⟨(fun h' => by rw [hk] at h'; cases h'), fun _ _ => ⟨rfl, h⟩, (fun _ h' => by rw [hq] at h'; cases h')⟩
    have HK0 : Hid (fullA l (frS s) = false → ∀ w', LgAt w gl pd (.slice oa l.last.length ca) (.slice ob l.sealed.length cb) (l.app (frS s)) w' → PP (.returned (.tuple #[.int .u64 l.fin, .int .i64 0])) w') := fun hq w' h => by
      rw [HPP.out]
      exact ⟨(fun h' => by rw [hk] at h'; cases h'), (fun _ h' => by rw [hq] at h'; cases h'), fun _ _ => ⟨rfl, h⟩⟩
    clear HPP hk hs
    generalize frS s = F at *
    generalize wantN ((l.open_.size : Int) + F.size) = WT at *
    obtain ⟨a, z, ep, la, sl, op, nx, fr, fi, du⟩ := l
    simp only at *
    have ho : Ck.Own w (gl + 1) (.slice ob sl.length cb) sl := ho
    obtain ⟨n, HNn⟩ : ∃ n, Hid (la.length = n) := ⟨_, rfl⟩
    obtain ⟨m, HMm⟩ : ∃ m, Hid (sl.length = m) := ⟨_, rfl⟩
    rw [HNn.out] at hr HMD HFU HK0 hla
    rw [HMm.out] at hr HMD HFU HK0 hsl ho
    unfold lcells at hr HMD
    simp only at hr HMD
    have v1 : IntKind.i64.wrap ((op.size : Int) + F.size) = (op.size : Int) + F.size := by rw [IntKind.wrap_i64]; omega
    have v2 : IntKind.i64.wrap ((n : Int) + m + WT) = (n : Int) + m + WT := by rw [IntKind.wrap_i64]; omega
    go_enter Try.func17, Try.ntmps17
    go_upto_region 4 with (go_at_call 49; refine Calls.mono (HFR.out _) ?_; clear HFR; rintro e w1 ⟨rfl, h1⟩; have s0 := hr.below h1 hr.lt; have sb := h1; have so := ho.keep h1)
    by_cases hfull : z < (n : Int) + m + WT
    · have hq : fullA ⟨a, z, ep, la, sl, op, nx, fr, fi, du⟩ F = true := by rw [HFU.out]; exact decide_eq_true hfull
      have HK := HK5.out hq
      have HK : Hid _ := HK
      clear HK5 HK0 HFU hq
      refine wp_region_held_drew (S := fun w' => Row w' gl #[pd, .int .i64 a, .int .i64 z, .int .u32 ep, .slice oa n ca, .slice ob m cb, .string op, .int .u32 nx, .bool fr, .int .u64 fi, .int .u64 du] 99 ∧ Below w.heap.size w w') (by kernel_rfl) ⟨s0, sb.drew⟩ fun hS => ?_
      clear s0 sb
      generalize w1.drew = W0 at hS ⊢
      refine tkI (i := 0) (v := .pointer (some ⟨gl, 0, none⟩)) rfl (Or.inl ⟨by rfl, fun w _ => by go_simp⟩) hS ?_
      try simp only [Act.put, nz]
      refine tkI (i := 2) (v := .pointer (some ⟨gl, 0, none⟩)) rfl (Or.inl ⟨by rfl, fun w _ => by go_simp⟩) hS ?_
      try simp only [Act.put, nz]
      refine tkI (i := 3) (v := .pointer (some ⟨gl, 0, none⟩)) rfl (Or.inl ⟨by rfl, fun w _ => by go_simp⟩) hS ?_
      try simp only [Act.put, nz]
      refine tkI (i := 4) (v := .pointer (some ⟨gl, 6, none⟩)) rfl (Or.inl ⟨by rfl, fun w _ => by go_simp⟩) hS ?_
      try simp only [Act.put, nz]
      refine tkI (i := 5) (v := .string op) rfl (Or.inl ⟨by rfl, fun w h => by have c := row_at h.1 6 _ rfl; go_simp⟩) hS ?_
      try simp only [Act.put, nz]
      refine tkI (i := 6) (v := .int .i64 op.size) rfl (Or.inl ⟨by rfl, fun w _ => by go_simp⟩) hS ?_
      try simp only [Act.put, nz]
      refine tkI (i := 7) (v := .string F) rfl (Or.inl ⟨by rfl, fun w _ => by go_simp⟩) hS ?_
      try simp only [Act.put, nz]
      refine tkI (i := 8) (v := .int .i64 F.size) rfl (Or.inl ⟨by rfl, fun w _ => by go_simp⟩) hS ?_
      try simp only [Act.put, nz]
      refine tkI (i := 9) (v := .int .i64 ((op.size : Int) + F.size)) rfl (Or.inl ⟨by rfl, fun w _ => by go_simp⟩) hS ?_
      try simp only [Act.put, nz]
      refine tkI (i := 12) (v := .pointer (some ⟨gl, 0, none⟩)) rfl (Or.inl ⟨by rfl, fun w _ => by go_simp⟩) hS ?_
      try simp only [Act.put, nz]
      refine tkI (i := 13) (v := .pointer (some ⟨gl, 0, none⟩)) rfl (Or.inl ⟨by rfl, fun w _ => by go_simp⟩) hS ?_
      try simp only [Act.put, nz]
      refine tkI (i := 14) (v := .pointer (some ⟨gl, 0, none⟩)) rfl (Or.inl ⟨by rfl, fun w _ => by go_simp⟩) hS ?_
      try simp only [Act.put, nz]
      refine tkI (i := 15) (v := .pointer (some ⟨gl, 2, none⟩)) rfl (Or.inl ⟨by rfl, fun w _ => by go_simp⟩) hS ?_
      try simp only [Act.put, nz]
      refine tkI (i := 16) (v := .int .i64 z) rfl (Or.inl ⟨by rfl, fun w h => by have c := row_at h.1 2 _ rfl; go_simp⟩) hS ?_
      try simp only [Act.put, nz]
      refine wpAnyH_ready (rs := [1]) (by kernel_rfl) (by simp) ?_
      refine AllReadyH.cons rfl (fun K hK => ?_) AllReadyH.nil
      go_simp
      go_at_call 50
      refine Calls.mono (HMD.out _ hS.1) ?_
      rintro e w1_1 ⟨rfl, hcb⟩
      refine hK.out _ _ (⟨hS.1.below hcb hS.1.lt, hS.2.trans (hcb.mono hS.2.size)⟩) fun hS => ?_
      try simp only [Act.put, nz]
      clear hcb
      refine wpAnyH_ready (rs := [10]) (by kernel_rfl) (by simp) ?_
      refine AllReadyH.cons rfl (fun K hK => ?_) AllReadyH.nil
      go_simp
      go_at_call 51
      refine Calls.mono (HWT.out _) ?_
      rintro e w2_10 ⟨rfl, hcb⟩
      refine hK.out _ _ (⟨hS.1.below hcb hS.1.lt, hS.2.trans (hcb.mono hS.2.size)⟩) fun hS => ?_
      try simp only [Act.put, nz]
      clear hcb
      refine tkI (i := 11) (v := .int .i64 ((n : Int) + m + WT)) rfl (Or.inl ⟨by rfl, fun w _ => by go_simp⟩) hS ?_
      try simp only [Act.put, nz]
      refine tkI (i := 17) (v := .bool true) rfl (Or.inl ⟨by rfl, fun w _ => by go_simp⟩) hS ?_
      try simp only [Act.put, nz]
      refine wpAnyH_done (by kernel_rfl) ?_ _
      go_wp2
      try go_ret
      first
        | exact HK.out _ hS.2
        | exact hS.2
    · have hq : fullA ⟨a, z, ep, la, sl, op, nx, fr, fi, du⟩ F = false := by rw [HFU.out]; exact decide_eq_false hfull
      have HK := HK0.out hq
      have HK : Hid _ := HK
      clear HK5 HK0 HFU hq
      refine wp_region_held_drew (S := fun w' => Row w' gl #[pd, .int .i64 a, .int .i64 z, .int .u32 ep, .slice oa n ca, .slice ob m cb, .string op, .int .u32 nx, .bool fr, .int .u64 fi, .int .u64 du] 99 ∧ Below w.heap.size w w') (by kernel_rfl) ⟨s0, sb.drew⟩ fun hS => ?_
      clear s0 sb
      generalize w1.drew = W0 at hS ⊢
      refine tkI (i := 0) (v := .pointer (some ⟨gl, 0, none⟩)) rfl (Or.inl ⟨by rfl, fun w _ => by go_simp⟩) hS ?_
      try simp only [Act.put, nz]
      refine tkI (i := 2) (v := .pointer (some ⟨gl, 0, none⟩)) rfl (Or.inl ⟨by rfl, fun w _ => by go_simp⟩) hS ?_
      try simp only [Act.put, nz]
      refine tkI (i := 3) (v := .pointer (some ⟨gl, 0, none⟩)) rfl (Or.inl ⟨by rfl, fun w _ => by go_simp⟩) hS ?_
      try simp only [Act.put, nz]
      refine tkI (i := 4) (v := .pointer (some ⟨gl, 6, none⟩)) rfl (Or.inl ⟨by rfl, fun w _ => by go_simp⟩) hS ?_
      try simp only [Act.put, nz]
      refine tkI (i := 5) (v := .string op) rfl (Or.inl ⟨by rfl, fun w h => by have c := row_at h.1 6 _ rfl; go_simp⟩) hS ?_
      try simp only [Act.put, nz]
      refine tkI (i := 6) (v := .int .i64 op.size) rfl (Or.inl ⟨by rfl, fun w _ => by go_simp⟩) hS ?_
      try simp only [Act.put, nz]
      refine tkI (i := 7) (v := .string F) rfl (Or.inl ⟨by rfl, fun w _ => by go_simp⟩) hS ?_
      try simp only [Act.put, nz]
      refine tkI (i := 8) (v := .int .i64 F.size) rfl (Or.inl ⟨by rfl, fun w _ => by go_simp⟩) hS ?_
      try simp only [Act.put, nz]
      refine tkI (i := 9) (v := .int .i64 ((op.size : Int) + F.size)) rfl (Or.inl ⟨by rfl, fun w _ => by go_simp⟩) hS ?_
      try simp only [Act.put, nz]
      refine tkI (i := 12) (v := .pointer (some ⟨gl, 0, none⟩)) rfl (Or.inl ⟨by rfl, fun w _ => by go_simp⟩) hS ?_
      try simp only [Act.put, nz]
      refine tkI (i := 13) (v := .pointer (some ⟨gl, 0, none⟩)) rfl (Or.inl ⟨by rfl, fun w _ => by go_simp⟩) hS ?_
      try simp only [Act.put, nz]
      refine tkI (i := 14) (v := .pointer (some ⟨gl, 0, none⟩)) rfl (Or.inl ⟨by rfl, fun w _ => by go_simp⟩) hS ?_
      try simp only [Act.put, nz]
      refine tkI (i := 15) (v := .pointer (some ⟨gl, 2, none⟩)) rfl (Or.inl ⟨by rfl, fun w _ => by go_simp⟩) hS ?_
      try simp only [Act.put, nz]
      refine tkI (i := 16) (v := .int .i64 z) rfl (Or.inl ⟨by rfl, fun w h => by have c := row_at h.1 2 _ rfl; go_simp⟩) hS ?_
      try simp only [Act.put, nz]
      refine wpAnyH_ready (rs := [1]) (by kernel_rfl) (by simp) ?_
      refine AllReadyH.cons rfl (fun K hK => ?_) AllReadyH.nil
      go_simp
      go_at_call 50
      refine Calls.mono (HMD.out _ hS.1) ?_
      rintro e w1_1 ⟨rfl, hcb⟩
      refine hK.out _ _ (⟨hS.1.below hcb hS.1.lt, hS.2.trans (hcb.mono hS.2.size)⟩) fun hS => ?_
      try simp only [Act.put, nz]
      clear hcb
      refine wpAnyH_ready (rs := [10]) (by kernel_rfl) (by simp) ?_
      refine AllReadyH.cons rfl (fun K hK => ?_) AllReadyH.nil
      go_simp
      go_at_call 51
      refine Calls.mono (HWT.out _) ?_
      rintro e w2_10 ⟨rfl, hcb⟩
      refine hK.out _ _ (⟨hS.1.below hcb hS.1.lt, hS.2.trans (hcb.mono hS.2.size)⟩) fun hS => ?_
      try simp only [Act.put, nz]
      clear hcb
      refine tkI (i := 11) (v := .int .i64 ((n : Int) + m + WT)) rfl (Or.inl ⟨by rfl, fun w _ => by go_simp⟩) hS ?_
      try simp only [Act.put, nz]
      refine tkI (i := 17) (v := .bool false) rfl (Or.inl ⟨by rfl, fun w _ => by go_simp⟩) hS ?_
      try simp only [Act.put, nz]
      refine wpAnyH_done (by kernel_rfl) ?_ _
      have c6 := row_at hS.1 6 _ rfl
      have c9 := row_at hS.1 9 _ rfl
      have f6 := row_frozen hS.1 6
      have hO1 : Off (fun j => j = gl ∨ (Value.slice ob m cb).ownBlock = some j) w w2_10 := Off.of_below hS.2
      have own2 : Ck.Own w2_10 (gl + 1) (.slice ob m cb) sl := ho.keep hS.2
      have R6 : Row (w2_10.setCell ⟨gl, 6, none⟩ (.string (op ++ F))) gl #[pd, .int .i64 a, .int .i64 z, .int .u32 ep, .slice oa n ca, .slice ob m cb, .string (op ++ F), .int .u32 nx, .bool fr, .int .u64 fi, .int .u64 du] 99 := row_set hS.1 6 _
      have own6 : Ck.Own (w2_10.setCell ⟨gl, 6, none⟩ (.string (op ++ F))) (gl + 1) (.slice ob m cb) sl := own2.other gl 6 _ (by omega)
      have O6 := hO1.trans (Off.of_setCell (F := (· = gl)) w2_10 ⟨gl, 6, none⟩ (.string (op ++ F)) rfl) (fun j q => Or.inl (Or.inl q))
      go_upto_region 8 with fail
      clear hS c6 c9 f6 own2 hO1
      generalize w2_10.setCell ⟨gl, 6, none⟩ (.string (op ++ F)) = w7 at R6 own6 O6 ⊢
      have c9 := row_at R6 9 _ rfl
      have f9 := row_frozen R6 9
      have R9 : Row (w7.setCell ⟨gl, 9, none⟩ (.int .u64 (fi + F.size))) gl (lcells pd (.slice oa n ca) (.slice ob m cb) (Lg.more ⟨a, z, ep, la, sl, op, nx, fr, fi, du⟩ F)) 99 := row_set R6 9 _
      have own9 : Ck.Own (w7.setCell ⟨gl, 9, none⟩ (.int .u64 (fi + F.size))) (gl + 1) (.slice ob m cb) sl := own6.other gl 9 _ (by omega)
      have O9 := O6.trans (Off.of_setCell (F := (· = gl)) w7 ⟨gl, 9, none⟩ (.int .u64 (fi + F.size)) rfl) (fun j q => Or.inl (Or.inl q))
      have v3 : IntKind.u64.wrap (F.size : Int) = F.size := by rw [IntKind.wrap_u64]; omega
      have v4 : IntKind.u64.wrap (fi + F.size) = fi + F.size := by rw [IntKind.wrap_u64]; omega
      go_upto_region 9 with fail
      clear c9 f9 R6 own6 O6
      generalize w7.setCell ⟨gl, 9, none⟩ (.int .u64 (fi + F.size)) = w8 at R9 own9 O9 ⊢
      have HL0 : Hid (LgAt w gl pd (.slice oa n ca) (.slice ob m cb) ((Lg.more ⟨a, z, ep, la, sl, op, nx, fr, fi, du⟩ F).sealN 0) w8) := ⟨_, R9, own9, O9, fun j hj => Or.inl hj⟩
      have c6 : w8.cell? ⟨gl, 6, none⟩ = some (.string (op ++ F)) := row_at R9 6 _ rfl
      have hsz2 : (op ++ F).size = op.size + F.size := ByteArray.size_append
      have hq : ((op ++ F).size : Int).tdiv 214 = (((op ++ F).size / 214 : Nat) : Int) := by rw [Int.tdiv_eq_ediv_of_nonneg (by omega)]; omega
      have hq2 : ((op.size : Int) + F.size) / 214 = (((op ++ F).size / 214 : Nat) : Int) := by rw [hsz2]; omega
      have HAP : Hid (Lg.app ⟨a, z, ep, la, sl, op, nx, fr, fi, du⟩ F = (Lg.more ⟨a, z, ep, la, sl, op, nx, fr, fi, du⟩ F).sealN ((op ++ F).size / 214)) := rfl
      have HB : Hid ((Lg.more ⟨a, z, ep, la, sl, op, nx, fr, fi, du⟩ F).open_.size = op.size + F.size ∧ (Lg.more ⟨a, z, ep, la, sl, op, nx, fr, fi, du⟩ F).sealed.length = m ∧ (Lg.more ⟨a, z, ep, la, sl, op, nx, fr, fi, du⟩ F).fin = fi + F.size ∧ (Lg.more ⟨a, z, ep, la, sl, op, nx, fr, fi, du⟩ F).next = nx) := ⟨hsz2, HMm.out, rfl, rfl⟩
      have HCE : Hid (∀ k w', LgAt w gl pd (.slice oa n ca) (.slice ob m cb) ((Lg.more ⟨a, z, ep, la, sl, op, nx, fr, fi, du⟩ F).sealN k) w' → k < (op ++ F).size / 214 → Calls Try.prog 52 #[.pointer (some ⟨gl, 0, none⟩), .int .i64 214] w' fun e w2 => e = .returned (.tuple #[]) ∧ LgAt w gl pd (.slice oa n ca) (.slice ob m cb) ((Lg.more ⟨a, z, ep, la, sl, op, nx, fr, fi, du⟩ F).sealN (k + 1)) w2) := fun k w' h hk => by
        obtain ⟨h1, h2, h3, h4⟩ := HB.out
        have e1 := sealN_open (Lg.more ⟨a, z, ep, la, sl, op, nx, fr, fi, du⟩ F) k (by rw [h1]; omega)
        have e2 := sealN_len (Lg.more ⟨a, z, ep, la, sl, op, nx, fr, fi, du⟩ F) k
        have e3 := sealN_fin (Lg.more ⟨a, z, ep, la, sl, op, nx, fr, fi, du⟩ F) k
        have e4 := sealN_next (Lg.more ⟨a, z, ep, la, sl, op, nx, fr, fi, du⟩ F) (by rw [h4]; exact hx) k
        exact LgAt.sealed h 214 (by rw [e1, h1]; omega) (by rw [e2, h2]; omega) (by rw [e3, h3, e1, h1]; omega) e4 (by rw [e1, h1]; omega)
      clear R9 own9 O9 HMD HWT HMm HNn ho hr
      generalize Lg.more ⟨a, z, ep, la, sl, op, nx, fr, fi, du⟩ F = l1 at HL0 HAP HCE HB
      generalize (op ++ F).size / 214 = KK at hq hq2 HAP HCE
      go_wp2
      go_loopw [62] (fun i wr => ∃ (k : Nat), k ≤ KK ∧ i = .int .i64 k ∧ LgAt w gl pd (.slice oa n ca) (.slice ob m cb) (l1.sealN k) wr) (fun i _ => KK - (intOf i).toNat)
      case atStart => exact ⟨0, by omega, rfl, HL0.out⟩
      case round =>
        clear HL0
        obtain ⟨k, hk, rfl, hA⟩ := hrel
        by_cases hkk : k < KK
        · have hkk' : (k : Int) < (KK : Int) := by omega
          have HC : Hid _ := HCE.out k wr hA hkk
          clear hA
          go_wp2_with (go_at_call 52; refine Calls.mono HC.out ?_; clear HC; rintro e w10 ⟨rfl, hA⟩)
          go_roundw
          case rel => exact ⟨k + 1, by omega, by go_num, hA⟩
          case measure => simp [intOf]; omega
        · obtain rfl : KK = k := by omega
          have hkk' : ¬ (KK : Int) < (KK : Int) := by omega
          go_wp2
          try go_ret
          first
            | exact HK.out _ (by rw [HAP.out]; exact hA)
            | (rw [HAP.out]; exact hA)
theorem OwnCk.nil (w : World) (base : Nat) : Ck.Own w base (.slice none 0 0) [] := ⟨rfl, Or.inl ⟨rfl, rfl⟩⟩

theorem dur_any (gl : Nat) (pd vl vs : Value) (l : Lg) (w : World) (hr : Row w gl (lcells pd vl vs l) 99) : Calls Try.prog 13 #[.pointer (some ⟨gl, 0, none⟩)] w fun e w' => e = .returned (.int .u64 l.dur) ∧ Below w.heap.size w w' := by
  have c := row_at hr 10 _ rfl
  clear hr
  go_enter Try.func13, Try.ntmps13
  go_wp2
  go_ret
  exact ⟨rfl, Below.refl _ _⟩
theorem OwnU.at {w : World} {base : Nat} {v : Value} {xs : List Int} (h : OwnU w base v xs) (k : Nat) (x : Int) (hk : xs[k]? = some x) : ∃ g cap, v = .slice (some ⟨g, 0, none⟩) xs.length cap ∧ w.cell? ⟨g, k, none⟩ = some (.int .u64 x) := by
  have hc := fun g hg => World.ownsRow.cells h (g := g) hg
  rcases h.2 with ⟨rfl, h2⟩ | ⟨g, cap, cur, rfl, _⟩
  · rw [List.eq_nil_of_length_eq_zero h2] at hk; simp at hk
  · have hq := hc g rfl k (.int .u64 x) (by rw [List.getElem?_map, hk]; rfl)
    rw [Addr.add_mid, Nat.zero_add] at hq
    exact ⟨g, cap, rfl, hq⟩
theorem info25u : (Try.prog.info? 37).map (fun i => (i.zero, i.size, i.bytes)) = some (some (.int .u64 0), 1, 8) := by kernel_rfl
theorem OwnU.off {F : Nat → Prop} {w w' : World} {base : Nat} {v : Value} {xs : List Int} (h : OwnU w base v xs) (ho : Off F w w') (hF : ∀ j, v.ownBlock = some j → ¬ F j) : OwnU w' base v xs := by
  have hl := World.ownsRow.lt h
  obtain ⟨h1, h2⟩ := h
  refine ⟨h1, ?_⟩
  rcases h2 with h2 | ⟨g, cap, cur, rfl, hb', hc, rest⟩
  · exact Or.inl h2
  · exact Or.inr ⟨g, cap, cur, rfl, hb', (ho.block g (hl g rfl).2 (hF g rfl)).trans hc, rest⟩
theorem OwnU.snocQ {w : World} {base : Nat} {v : Value} {xs : List Int} (h : OwnU w base v xs) (ty : TypeId) (X : Nat) (x : Int) (hX : Row w X #[.int .u64 x] 37) (hb : base ≤ w.heap.size) (hn : xs.length ≤ 1000000) :
    ∃ v' w', (Builtin.append_ #[96, 96] ty #[v, .slice (some ⟨X, 0, none⟩) 1 1]).run Try.prog w = .ok v' w' ∧ (OwnU w' base v' (xs ++ [x]) ∧ w.grownBy w' v.ownBlock ∧ (v'.ownBlock = v.ownBlock ∨ v'.ownBlock = some w.heap.size)) := by
  obtain ⟨i, hi, hz, hs, hby⟩ := Ck.info_parts info25u
  obtain ⟨v', w', hr, h2, h3, h4, h5⟩ := run_append_own_at (P := Try.prog) w base 96 ty 37 i _ 1 8 Try.underlying96 hi hz hs hby rfl (by decide) v xs.length (xs.map (Value.int .u64)) h ⟨X, 0, none⟩ 1 1 [.int .u64 x] rfl (fun j u hj => by rw [Addr.add_mid, Nat.zero_add, cell_of_row w X j _ _ _ hX, ← hj, List.getElem?_toArray]) (fun u hu => by simp at hu; subst hu; rfl) (by unfold maxLen; omega) (by omega) hb
  refine ⟨v', w', hr, ?_, h3, h5⟩
  unfold OwnU
  rw [List.map_append, List.length_append]
  exact h2
theorem own_apartU {w : World} {b b' g : Nat} {v v' : Value} {xs : List Int} {os : List Ck.O} (h : OwnU w b v xs) (h' : Ck.Own w b' v' os) (hb : v.ownBlock = some g) (hb' : v'.ownBlock = some g) : False := by
  rcases h.2 with ⟨rfl, _⟩ | ⟨g1, cap, cur, rfl, _, hc, _⟩
  · cases hb
  · cases hb
    rcases h'.2 with ⟨rfl, _⟩ | ⟨g2, cap2, cur2, rfl, _, hc2, _⟩
    · cases hb'
    · cases hb'
      rw [hc] at hc2
      simp at hc2
structure LD (w : World) (gl gd : Nat) (vl vs : Value) (L : Loc) (l : Lg) (d : Dsk) (N : Nat) : Prop where
  row : Row w gl (lcells (.pointer (some ⟨gd, 0, none⟩)) vl vs l) 99
  last : OwnU w (gl + 1) vl l.last
  sld : Ck.Own w (gl + 1) vs l.sealed
  dsk : DAt w gd d L N
  ng : ¬ foot gd L gl
  nl : ∀ j, vl.ownBlock = some j → ¬ foot gd L j
  ns : ∀ j, vs.ownBlock = some j → ¬ foot gd L j
def lfoot (gl gd : Nat) (vl vs : Value) (L : Loc) (j : Nat) : Prop := j = gl ∨ vl.ownBlock = some j ∨ vs.ownBlock = some j ∨ foot gd L j
def LStep (w : World) (gl gd : Nat) (F : Nat → Prop) (l : Lg) (d : Dsk) (N : Nat) (w' : World) : Prop :=
  ∃ vl vs L, LD w' gl gd vl vs L l d N ∧ Off F w w' ∧ ∀ j, lfoot gl gd vl vs L j → F j ∨ w.heap.size ≤ j
theorem LD.lt {w : World} {gl gd : Nat} {vl vs : Value} {L : Loc} {l : Lg} {d : Dsk} {N : Nat} (h : LD w gl gd vl vs L l d N) {j : Nat} (hj : lfoot gl gd vl vs L j) : j < w.heap.size := by
  rcases hj with rfl | q | q | q
  · exact h.row.lt
  · exact (World.ownsRow.lt h.last j q).2
  · exact (World.ownsRow.lt h.sld j q).2
  · exact h.dsk.lt q
theorem LD.off {F : Nat → Prop} {w w' : World} {gl gd : Nat} {vl vs : Value} {L : Loc} {l : Lg} {d : Dsk} {N : Nat} (h : LD w gl gd vl vs L l d N) (ho : Off F w w') (hF : ∀ j, lfoot gl gd vl vs L j → ¬ F j) : LD w' gl gd vl vs L l d N :=
  ⟨h.row.off ho (hF _ (Or.inl rfl)), h.last.off ho (fun j q => hF j (Or.inr (Or.inl q))), h.sld.off ho (fun j q => hF j (Or.inr (Or.inr (Or.inl q)))), h.dsk.off ho (fun j q => hF j (Or.inr (Or.inr (Or.inr q)))), h.ng, h.nl, h.ns⟩
theorem LD.below {w w' : World} {gl gd : Nat} {vl vs : Value} {L : Loc} {l : Lg} {d : Dsk} {N : Nat} (h : LD w gl gd vl vs L l d N) (hb : Below w.heap.size w w') : LD w' gl gd vl vs L l d N :=
  h.off (Off.of_below (F := fun _ => False) hb) (fun _ _ q => q)
theorem LStep.refl {w : World} {gl gd : Nat} {vl vs : Value} {L : Loc} {l : Lg} {d : Dsk} {N : Nat} (h : LD w gl gd vl vs L l d N) : LStep w gl gd (lfoot gl gd vl vs L) l d N w := ⟨vl, vs, L, h, Off.refl _ _, fun _ q => Or.inl q⟩
theorem LStep.below {w wa wb : World} {gl gd : Nat} {F : Nat → Prop} {l : Lg} {d : Dsk} {N : Nat} (h : LStep w gl gd F l d N wa) (hb : Below wa.heap.size wa wb) : LStep w gl gd F l d N wb := by
  obtain ⟨vl, vs, L, h1, h2, h3⟩ := h
  exact ⟨vl, vs, L, h1.below hb, h2.trans (Off.of_below (F := fun _ => False) hb) (fun _ q => q.elim), h3⟩
theorem LStep.grow {w wa : World} {gl gd : Nat} {F : Nat → Prop} {l : Lg} {d : Dsk} {N M : Nat} (h : LStep w gl gd F l d N wa) (hm : N ≤ M) (hM : M < 1000000000000) : LStep w gl gd F l d M wa := by
  obtain ⟨vl, vs, L, h1, h2, h3⟩ := h
  exact ⟨vl, vs, L, ⟨h1.row, h1.last, h1.sld, h1.dsk.grow hm hM, h1.ng, h1.nl, h1.ns⟩, h2, h3⟩
theorem LStep.seal {w wr : World} {gl gd : Nat} {F : Nat → Prop} {l : Lg} {d : Dsk} {M : Nat} (h : LStep w gl gd F l d M wr) (N : Nat) (hN : N ≤ l.open_.size) (hs : l.sealed.length ≤ 900) (hf : (l.open_.size : Int) ≤ l.fin ∧ l.fin ≤ 18446744073709551615) (hx : 0 ≤ l.next ∧ l.next ≤ 4294967295) (hsz : l.open_.size ≤ 1000000000) :
    Calls Try.prog 52 #[.pointer (some ⟨gl, 0, none⟩), .int .i64 N] wr fun e w' => e = .returned (.tuple #[]) ∧ LStep w gl gd F (l.seal N) d M w' := by
  obtain ⟨vl, vs, L, h1, h2, h3⟩ := h
  refine (seal_any wr gl _ vl vs l N h1.row h1.sld hN hs hf hx hsz).mono ?_
  rintro e w' ⟨rfl, vs2, k1, k2, k3, k4⟩
  have hnew : ∀ j, vs2.ownBlock = some j → vs.ownBlock = some j ∨ wr.heap.size ≤ j := k4
  refine ⟨rfl, vl, vs2, L, ⟨k1, h1.last.off k3 (fun j q => ?_), k2, h1.dsk.off k3 (fun j q => ?_), h1.ng, h1.nl, fun j q q2 => ?_⟩, h2.trans k3 (fun j q => ?_), fun j q => ?_⟩
  · rintro (q2 | q2)
    · have := (World.ownsRow.lt h1.last j q).1; omega
    · exact own_apartU h1.last h1.sld q q2
  · rintro (q2 | q2)
    · subst q2; exact h1.ng q
    · exact h1.ns j q2 q
  · rcases hnew j q with q3 | q3
    · exact h1.ns j q3 q2
    · have := h1.dsk.lt q2; omega
  · rcases q with q | q
    · exact h3 j (Or.inl q)
    · exact h3 j (Or.inr (Or.inr (Or.inl q)))
  · rcases q with q | q | q | q
    · exact h3 j (Or.inl q)
    · exact h3 j (Or.inr (Or.inl q))
    · rcases hnew j q with q3 | q3
      · exact h3 j (Or.inr (Or.inr (Or.inl q3)))
      · have := h2.size; exact Or.inr (by omega)
    · exact h3 j (Or.inr (Or.inr (Or.inr q)))
theorem LStep.lay {w wr : World} {gl gd : Nat} {F : Nat → Prop} {l : Lg} {d : Dsk} {M : Nat} (h : LStep w gl gd F l d M wr) (f t : Nat) (hok : ∀ c ∈ l.sealed, c.Ok) (hf : f ≤ t) (ht : t ≤ l.sealed.length) (hs : l.sealed.length ≤ 100000) (ha : 0 ≤ l.at_ ∧ l.at_ ≤ 4294967295) (hz : 1 ≤ l.size ∧ l.size ≤ 4294967295) (hop : d.ops + l.sealed.length + 2 < 9223372036854775806) (hN : M + 4 * l.sealed.length + 4 < 1000000000000) :
    Calls Try.prog 127 #[.pointer (some ⟨gl, 0, none⟩), .int .i64 f, .int .i64 t] wr fun e w' => e = .returned (.int .i64 (layR l.at_ l.size ((l.sealed.drop f).take (t - f)) d).1) ∧ LStep w gl gd F l (layR l.at_ l.size ((l.sealed.drop f).take (t - f)) d).2 (M + 4 * (t - f)) w' := by
  obtain ⟨vl, vs, L, h1, h2, h3⟩ := h
  refine (lay_any wr gl gd vl vs l d L M f t h1.row h1.sld h1.dsk h1.ng h1.ns hok hf ht hs ha hz hop hN).mono ?_
  rintro e w' ⟨rfl, L2, k1, k2, k3⟩
  refine ⟨rfl, vl, vs, L2, ⟨h1.row.off k2 h1.ng, h1.last.off k2 h1.nl, h1.sld.off k2 h1.ns, k1, fun q => ?_, fun j q q2 => ?_, fun j q q2 => ?_⟩, h2.trans k2 (fun j q => h3 j (Or.inr (Or.inr (Or.inr q)))), fun j q => ?_⟩
  · rcases k3 gl q with q | q
    · exact h1.ng q
    · have := h1.row.lt; omega
  · rcases k3 j q2 with q3 | q3
    · exact h1.nl j q q3
    · have := (World.ownsRow.lt h1.last j q).2; omega
  · rcases k3 j q2 with q3 | q3
    · exact h1.ns j q q3
    · have := (World.ownsRow.lt h1.sld j q).2; omega
  · rcases q with q | q | q | q
    · exact h3 j (Or.inl q)
    · exact h3 j (Or.inr (Or.inl q))
    · exact h3 j (Or.inr (Or.inr (Or.inl q)))
    · rcases k3 j q with q3 | q3
      · exact h3 j (Or.inr (Or.inr (Or.inr q3)))
      · have := h2.size; exact Or.inr (by omega)
theorem LStep.set {w wr : World} {gl gd : Nat} {F : Nat → Prop} {l l2 : Lg} {d : Dsk} {M : Nat} {vl vs : Value} {L : Loc} (h1 : LD wr gl gd vl vs L l d M) (h2 : Off F w wr) (h3 : ∀ j, lfoot gl gd vl vs L j → F j ∨ w.heap.size ≤ j) (k : Nat) (v : Value) (vs2 : Value)
    (hr : Row (wr.setCell ⟨gl, k, none⟩ v) gl (lcells (.pointer (some ⟨gd, 0, none⟩)) vl vs2 l2) 99) (hl : l2.last = l.last) (hs : (vs2 = vs ∧ l2.sealed = l.sealed) ∨ (vs2 = .slice none 0 0 ∧ l2.sealed = [])) : LD (wr.setCell ⟨gl, k, none⟩ v) gl gd vl vs2 L l2 d M ∧ Off F w (wr.setCell ⟨gl, k, none⟩ v) ∧ ∀ j, lfoot gl gd vl vs2 L j → F j ∨ w.heap.size ≤ j := by
  have O : Off (· = gl) wr (wr.setCell ⟨gl, k, none⟩ v) := Off.of_setCell wr ⟨gl, k, none⟩ v rfl
  have e1 : OwnU (wr.setCell ⟨gl, k, none⟩ v) (gl + 1) vl l2.last := by rw [hl]; exact h1.last.off O (fun j q q2 => by have := (World.ownsRow.lt h1.last j q).1; omega)
  have e2 : DAt (wr.setCell ⟨gl, k, none⟩ v) gd d L M := h1.dsk.off O (fun j q q2 => by subst q2; exact h1.ng q)
  have e3 : Off F w (wr.setCell ⟨gl, k, none⟩ v) := h2.trans O (fun j q => by subst q; exact h3 _ (Or.inl rfl))
  rcases hs with ⟨rfl, hs⟩ | ⟨rfl, hs⟩
  · exact ⟨⟨hr, e1, by rw [hs]; exact h1.sld.off O (fun j q q2 => by have := (World.ownsRow.lt h1.sld j q).1; omega), e2, h1.ng, h1.nl, h1.ns⟩, e3, h3⟩
  · refine ⟨⟨hr, e1, by rw [hs]; exact OwnCk.nil _ _, e2, h1.ng, h1.nl, fun j q => by cases q⟩, e3, fun j q => ?_⟩
    rcases q with q | q | q | q
    · exact h3 j (Or.inl q)
    · exact h3 j (Or.inr (Or.inl q))
    · cases q
    · exact h3 j (Or.inr (Or.inr (Or.inr q)))
def Lg.closed (l : Lg) : Lg := if l.open_.size = 0 then l else l.seal l.open_.size
def Lg.flushed (l : Lg) : Lg := { l with last := l.last ++ l.sealed.map (·.off), sealed := [], dur := l.fin }
def restR (l : Lg) (f : Nat) (d : Dsk) : Int × Lg × Dsk :=
  if (layR l.at_ l.size (l.sealed.drop f) d).1 = 0 then (0, l.flushed, (layR l.at_ l.size (l.sealed.drop f) d).2) else ((layR l.at_ l.size (l.sealed.drop f) d).1, l, (layR l.at_ l.size (l.sealed.drop f) d).2)
def flushC (l : Lg) (d : Dsk) : Int × Lg × Dsk :=
  if l.fresh = true ∧ l.sealed ≠ [] then
    if (layR l.at_ l.size (l.sealed.take 1) d).1 = 0 then restR { l with fresh := false } 1 (layR l.at_ l.size (l.sealed.take 1) d).2 else ((layR l.at_ l.size (l.sealed.take 1) d).1, l, (layR l.at_ l.size (l.sealed.take 1) d).2)
  else restR l 0 d
def flushR (l : Lg) (d : Dsk) : Int × Lg × Dsk := flushC l.closed d
theorem count_ops1 (d : Dsk) : (count d).2.ops ≤ d.ops + 1 := by
  unfold count; split
  · simp
  · split <;> simp
theorem sync_ops1 (d : Dsk) : (sync d).2.ops ≤ d.ops + 1 := by
  unfold sync
  have := count_ops1 d
  split
  · simp; omega
  · split
    · exact this
    · exact this
theorem layR_ops (a z : Int) (cs : List Ck.O) (d : Dsk) : (layR a z cs d).2.ops ≤ d.ops + cs.length + 1 := by
  unfold layR
  have h1 := wrS_ops a z cs d
  split
  · simp; omega
  · split
    · have := sync_ops1 (wrS a z cs d).2; omega
    · omega
theorem own_not65 {w : World} {base g : Nat} {v : Value} {xs : List Int} {cs : Array Value} (h : OwnU w base v xs) (hb : v.ownBlock = some g) (hr : Row w g cs 164) : False := by
  rcases h.2 with ⟨rfl, _⟩ | ⟨g', cap, cur, rfl, _, hc, _⟩
  · cases hb
  · cases hb
    unfold Row at hr
    rw [hc] at hr
    simp at hr
def FLoop (w : World) (gl gd : Nat) (F : Nat → Prop) (l : Lg) (d : Dsk) (N : Nat) (vs : Value) (L : Loc) (k : Nat) (w' : World) : Prop :=
  ∃ vl, LD w' gl gd vl vs L { l with last := l.last ++ (l.sealed.take k).map (·.off) } d N ∧ Off F w w' ∧ ∀ j, lfoot gl gd vl vs L j → F j ∨ w.heap.size ≤ j
theorem FLoop.step {w w7 w15 : World} {gl gd : Nat} {F : Nat → Prop} {a z ep nx fi du : Int} {la xs : List Int} {sl : List Ck.O} {op : ByteArray} {fr : Bool} {d : Dsk} {N : Nat} {vl v15 vs : Value} {L : Loc} {k : Nat} {x : Int}
    (hD : LD w7 gl gd vl vs L ⟨a, z, ep, xs, sl, op, nx, fr, fi, du⟩ d N) (hO : Off F w w7) (hF : ∀ j, lfoot gl gd vl vs L j → F j ∨ w.heap.size ≤ j) (o : Off (fun j => j = gl ∨ vl.ownBlock = some j) w7 w15) (hn : ∀ j, v15.ownBlock = some j → vl.ownBlock = some j ∨ w7.heap.size ≤ j)
    (own : OwnU w15 (gl + 1) v15 (xs ++ [x])) (r : Row w15 gl #[.pointer (some ⟨gd, 0, none⟩), .int .i64 a, .int .i64 z, .int .u32 ep, vl, vs, .string op, .int .u32 nx, .bool fr, .int .u64 fi, .int .u64 du] 99) (hx : xs ++ [x] = la ++ (sl.take (k + 1)).map (·.off)) (hw : w.heap.size ≤ w7.heap.size) :
    FLoop w gl gd F ⟨a, z, ep, la, sl, op, nx, fr, fi, du⟩ d N vs L (k + 1) (w15.setCell ⟨gl, 4, none⟩ v15) := by
  have O1 : Off (· = gl) w15 (w15.setCell ⟨gl, 4, none⟩ v15) := Off.of_setCell w15 ⟨gl, 4, none⟩ v15 rfl
  have O2 : Off (fun j => j = gl ∨ vl.ownBlock = some j) w7 (w15.setCell ⟨gl, 4, none⟩ v15) := o.trans O1 (fun j q => Or.inl (Or.inl q))
  have hvl : ∀ j, vs.ownBlock = some j → ¬ (j = gl ∨ vl.ownBlock = some j) := fun j q q2 => by
    rcases q2 with q2 | q2
    · have := (World.ownsRow.lt hD.sld j q).1; omega
    · exact own_apartU hD.last hD.sld q2 q
  have hft : ∀ j, foot gd L j → ¬ (j = gl ∨ vl.ownBlock = some j) := fun j q q2 => by
    rcases q2 with q2 | q2
    · subst q2; exact hD.ng q
    · exact hD.nl j q2 q
  have own2 : OwnU (w15.setCell ⟨gl, 4, none⟩ v15) (gl + 1) v15 (la ++ (sl.take (k + 1)).map (·.off)) := by
    rw [← hx]; exact own.off O1 (fun j q q2 => by have := (World.ownsRow.lt own j q).1; omega)
  refine ⟨v15, ⟨row_set r 4 v15, own2, hD.sld.off O2 hvl, hD.dsk.off O2 hft, hD.ng, fun j q q2 => ?_, hD.ns⟩, hO.trans O2 (fun j q => ?_), fun j q => ?_⟩
  · rcases hn j q with q3 | q3
    · exact hD.nl j q3 q2
    · have := hD.dsk.lt q2; omega
  · rcases q with q | q
    · exact hF j (Or.inl q)
    · exact hF j (Or.inr (Or.inl q))
  · rcases q with q | q | q | q
    · exact hF j (Or.inl q)
    · rcases hn j q with q3 | q3
      · exact hF j (Or.inr (Or.inl q3))
      · exact Or.inr (by omega)
    · exact hF j (Or.inr (Or.inr (Or.inl q)))
    · exact hF j (Or.inr (Or.inr (Or.inr q)))
def FWays (w : World) (gl gd : Nat) (F : Nat → Prop) (l : Lg) (d : Dsk) (N : Nat) (PP : Ending → World → Prop) : Prop :=
  (¬ (l.fresh = true ∧ l.sealed ≠ []) → ∀ E d3, layR l.at_ l.size (l.sealed.drop 0) d = (E, d3) → (E ≠ 0 → ∀ w', LStep w gl gd F l d3 (N + 4 * (l.sealed.length - 0)) w' → PP (.returned (.int .i64 E)) w') ∧ (E = 0 → ∀ w', LStep w gl gd F l.flushed d3 (N + 4 * (l.sealed.length - 0)) w' → PP (.returned (.int .i64 0)) w')) ∧
  ((l.fresh = true ∧ l.sealed ≠ []) → ∀ E d2, layR l.at_ l.size (l.sealed.take 1) d = (E, d2) → (E ≠ 0 → ∀ w', LStep w gl gd F l d2 (N + 4 * (1 - 0)) w' → PP (.returned (.int .i64 E)) w') ∧ (E = 0 → ∀ E3 d3, layR l.at_ l.size (l.sealed.drop 1) d2 = (E3, d3) → (E3 ≠ 0 → ∀ w', LStep w gl gd F { l with fresh := false } d3 (N + 4 * (1 - 0) + 4 * (l.sealed.length - 1)) w' → PP (.returned (.int .i64 E3)) w') ∧ (E3 = 0 → ∀ w', LStep w gl gd F (Lg.flushed { l with fresh := false }) d3 (N + 4 * (1 - 0) + 4 * (l.sealed.length - 1)) w' → PP (.returned (.int .i64 0)) w')))
theorem fways (w : World) (gl gd : Nat) (F : Nat → Prop) (l : Lg) (d : Dsk) (N : Nat) (hN : N + 4 * l.sealed.length + 8 < 1000000000000) : FWays w gl gd F l d N (fun e w' => e = .returned (.int .i64 (flushC l d).1) ∧ LStep w gl gd F (flushC l d).2.1 (flushC l d).2.2 (N + 4 * (l.sealed.length + 1)) w') := by
  refine ⟨fun hc E d3 hl => ?_, fun hc E d2 hl => ⟨fun hE w' h => ?_, fun hE E3 d3 hl3 => ?_⟩⟩
  · have e1 : flushC l d = restR l 0 d := by unfold flushC; rw [if_neg hc]
    refine ⟨fun hE w' h => ?_, fun hE w' h => ?_⟩
    · have e2 : restR l 0 d = (E, l, d3) := by unfold restR; rw [hl, if_neg hE]
      rw [e1, e2]; exact ⟨rfl, h.grow (by omega) (by omega)⟩
    · have e2 : restR l 0 d = (0, l.flushed, d3) := by unfold restR; rw [hl, if_pos hE]
      rw [e1, e2]; exact ⟨rfl, h.grow (by omega) (by omega)⟩
  · have e1 : flushC l d = (E, l, d2) := by unfold flushC; rw [if_pos hc, hl, if_neg hE]
    rw [e1]; exact ⟨rfl, h.grow (by omega) (by omega)⟩
  · have hln : l.sealed.length ≠ 0 := fun q => hc.2 (List.eq_nil_of_length_eq_zero q)
    have e1 : flushC l d = restR { l with fresh := false } 1 d2 := by unfold flushC; rw [if_pos hc, hl, if_pos hE]
    refine ⟨fun hE3 w' h => ?_, fun hE3 w' h => ?_⟩
    · have e2 : restR { l with fresh := false } 1 d2 = (E3, { l with fresh := false }, d3) := by unfold restR; simp only [hl3, if_neg hE3]
      rw [e1, e2]; exact ⟨rfl, h.grow (by omega) (by omega)⟩
    · have e2 : restR { l with fresh := false } 1 d2 = (0, Lg.flushed { l with fresh := false }, d3) := by unfold restR; simp only [hl3, if_pos hE3]
      rw [e1, e2]; exact ⟨rfl, h.grow (by omega) (by omega)⟩
end Go.Proofs.Ytehogiondcpbcaa
