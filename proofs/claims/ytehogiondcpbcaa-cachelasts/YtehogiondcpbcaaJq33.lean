/-
  Proved here: a call of the statements' over a cache.
-/
import Derived.Test.YtehogiondcpbcaaJq32
namespace Go.Proofs.Ytehogiondcpbcaa
open Go.ChangeShapes Go.WideShapes Go.ChangeAt Go.RowKit
set_option linter.unusedVariables false
set_option linter.unusedSimpArgs false
set_option maxRecDepth 20000
def putB3 : ByteArray := { data := #[112, 117, 116] }
def moreB4 : ByteArray := { data := #[109, 111, 114, 101] }
theorem CL.append {w : World} {F : Nat → Prop} {gc gd gl gk ak : Nat} {s : Cs} {l : Lg} {d : Dsk} {M : Int} {N : Nat} (c : CL w F gc gd gl gk ak s l d M N) (hi : l.Inv) (hf : l.fin ≤ 9223372036854775807) (t : ByteArray) (ht : t.size ≤ maxLen) : Calls Try.prog 17 #[.pointer (some ⟨gl, 0, none⟩), .string t] w fun e w' => e = .returned (.tuple #[.int .u64 (appA l t), .int .i64 (appE l t)]) ∧ CStep w F gc gd gl gk ak s (appL l t) d M N w' := by
  obtain ⟨fv, m, n, vl, vs, L, cA, hst, lD, hdis, hF⟩ := c.self
  have hfew := hi.few
  refine (hst.app t ht (by omega) (by omega) (by have := hi.op; omega) ⟨hi.fin, hf⟩ hi.next).mono ?_
  rintro e w' ⟨q1, q2⟩
  refine ⟨q1, CStep.logd hdis hF (fun j q => cA.lt q) (q2.off.mono fun j q => Or.inl (hF j (Or.inl q))) q2 (cA.off q2.off fun k q q2 => hdis k q2 q) c.ok⟩
theorem CL.gd {w : World} {F : Nat → Prop} {gc gd gl gk ak : Nat} {s : Cs} {l : Lg} {d : Dsk} {M : Int} {N : Nat} (c : CL w F gc gd gl gk ak s l d M N) : F gd := by
  obtain ⟨fv, m, n, vl, vs, L, cA, hst, lD, hdis, hF⟩ := c.self
  exact hF gd (Or.inl (Or.inr (Or.inr (Or.inr (Or.inl rfl)))))
theorem CL.plan {w : World} {F : Nat → Prop} {gc gd gl gk ak : Nat} {s : Cs} {l : Lg} {d : Dsk} {M : Int} {N : Nat} (c : CL w F gc gd gl gk ak s l d M N) (k : Value) (zl : List Int) (hc : Cel w k (zl.map (.int .i64))) (hne : ∀ a n c, k = .slice (some a) n c → a.block ≠ gd) (zw : ∀ z ∈ zl, Wf z) (hl : zl.length * 8 ≤ 140737488355328) : Calls Try.prog 24 #[.pointer (some ⟨gd, 0, none⟩), k, .int .i64 0] w fun e w' => e = .returned (.tuple #[]) ∧ CStep w F gc gd gl gk ak s l (d.plan zl 0) M N w' := by
  obtain ⟨fv, m, n, vl, vs, L, cA, hst, lD, hdis, hF⟩ := c.self
  refine (hst.plan k zl hc hne zw hl).mono ?_
  rintro e w' ⟨q1, q2⟩
  refine ⟨q1, CStep.logd hdis hF (fun j q => cA.lt q) (q2.off.mono fun j q => Or.inl (hF j (Or.inl q))) q2 (cA.off q2.off fun k q q2 => hdis k q2 q) c.ok⟩
def DoR (s : Cs) (l : Lg) (d : Dsk) (o : XO) (s' : Cs) (l' : Lg) (d' : Dsk) : Prop :=
  (o.kd = 0 ∧ ∃ p E, Fetches s l d o.u o.k p E s' l' d') ∨
  (o.kd = 1 ∧ s' = unpinS s o.u o.k ∧ l' = l ∧ d' = d) ∨
  (o.kd = 2 ∧ s' = (if appE l putB3 = 0 then putS s o.u o.k (fillP o.u o.k o.b (appA l putB3)) else s) ∧ l' = appL l putB3 ∧ d' = d) ∨
  (o.kd = 3 ∧ s' = (writeR s l d o.u o.k).2.1 ∧ l' = (writeR s l d o.u o.k).2.2.1 ∧ d' = (writeR s l d o.u o.k).2.2.2) ∨
  (o.kd = 4 ∧ s' = coldS s o.u o.k (decide (o.b % 2 = 1)) ∧ l' = l ∧ d' = d) ∨
  (o.kd = 5 ∧ s' = s ∧ l' = appL l moreB4 ∧ d' = d) ∨
  (o.kd = 6 ∧ s' = s ∧ l' = l ∧ d' = d.plan o.zl 0) ∨
  (o.kd ≠ 0 ∧ o.kd ≠ 1 ∧ o.kd ≠ 2 ∧ o.kd ≠ 3 ∧ o.kd ≠ 4 ∧ o.kd ≠ 5 ∧ o.kd ≠ 6 ∧ s' = s ∧ l' = l ∧ d' = d)
def DoQ (w : World) (F : Nat → Prop) (gc gd gl gk ak : Nat) (s : Cs) (l : Lg) (d : Dsk) (M : Int) (N : Nat) (o : XO) (e : Ending) (w' : World) : Prop :=
  ∃ s' l' d', DoR s l d o s' l' d' ∧ e = .returned (.tuple #[]) ∧ CStep w F gc gd gl gk ak s' l' d' (M + 1) (N + 4004) w'
set_option maxHeartbeats 2000000 in
theorem do_fetch {w : World} {F : Nat → Prop} {gc gd gl gk ak : Nat} {s : Cs} {l : Lg} {d : Dsk} {M : Int} {N : Nat} (c : CL w F gc gd gl gk ak s l d M N) (u : Bool) (k b : Int) (fs : Value) (zl p : List Int) (hok : XO.Ok w ⟨0, u, k, b, fs, zl, p⟩) (hi : l.Inv) (hfi : l.fin ≤ 9223372036854775807) (hop : d.ops + 4000 < 9223372036854775806) (hN : N + 40000 < 1000000000000) (hM : M + 1 < 1000000000000) : Calls Try.prog 9 #[.pointer (some ⟨gd, 0, none⟩), .pointer (some ⟨gl, 0, none⟩), .pointer (some ⟨gc, 0, none⟩), .agg (XO.cells ⟨0, u, k, b, fs, zl, p⟩).toArray] w fun e w' => DoQ w F gc gd gl gk ak s l d M N ⟨0, u, k, b, fs, zl, p⟩ e w' := by
  obtain ⟨PP, HPP⟩ : ∃ PP : Ending → World → Prop, Hid (PP = fun e w' => DoQ w F gc gd gl gk ak s l d M N ⟨0, u, k, b, fs, zl, p⟩ e w') := ⟨_, rfl⟩
  rw [← HPP.out]
  have HPO : Hid (∀ s' l' d' W, DoR s l d ⟨0, u, k, b, fs, zl, p⟩ s' l' d' → CStep w F gc gd gl gk ak s' l' d' (M + 1) (N + 4004) W → PP (.returned (.tuple #[])) W) := by
    rw [HPP.out]
    exact fun s' l' d' W h1 h2 => ⟨s', l', d', h1, rfl, h2⟩
  clear HPP
  have HOK : Hid (XO.Ok w ⟨0, u, k, b, fs, zl, p⟩) := hok
  have HKW : Hid (WfU k) := wfu_mk hok.k
  have HBR : Hid (0 ≤ b ∧ b ≤ 255) := hok.b
  have HNN : Hid (N + 40000 < 1000000000000) := hN
  have HMM : Hid (M + 1 < 1000000000000) := hM
  obtain ⟨OA, HOA⟩ : ∃ OA, Hid ((XO.cells ⟨0, u, k, b, fs, zl, p⟩).toArray = OA) := ⟨_, rfl⟩
  have HC0 : Hid (∀ W A, Row W A OA 36 → W.cell? ⟨A, 0, none⟩ = some (.int .i64 (0))) := fun W A h => row_at h 0 _ (by rw [← HOA.out]; rfl)
  have HC3 : Hid (∀ W A, Row W A OA 36 → W.cell? ⟨A, 3, none⟩ = some (.int .u8 b)) := fun W A h => row_at h 3 _ (by rw [← HOA.out]; rfl)
  have HC4 : Hid (∀ W A, Row W A OA 36 → W.cell? ⟨A, 4, none⟩ = some fs) := fun W A h => row_at h 4 _ (by rw [← HOA.out]; rfl)
  have HCI : Hid (∀ W A, Row W A OA 36 → ∀ j v, ([.bool u, .int .u16 k] : List Value)[j]? = some v → W.cell? ((⟨A, 1, none⟩ : Addr).add j) = some v) := fun W A h j v hj => by
    rw [Addr.add_mid]
    have hj2 : j < 2 := (List.getElem?_eq_some_iff.1 hj).1
    refine row_at h (1 + j) _ ?_
    rw [← HOA.out]
    match j, hj2, hj with
    | 0, _, hj => simpa [XO.cells] using hj
    | 1, _, hj => simpa [XO.cells] using hj
  rw [HOA.out]
  have r0 : Row (w.alloc (.cells OA 36)) w.heap.size OA 36 := Row.new _ _ _
  have ab : Below w.heap.size w (w.alloc (.cells OA 36)) := (Below.refl _ _).alloc (Nat.le_refl _) _
  have HC : Hid (CL w F gc gd gl gk ak s l d M N) := c
  have HFE : Hid (∀ W, CL W F gc gd gl gk ak s l d M N → Calls Try.prog 16 #[.pointer (some ⟨gc, 0, none⟩), .agg #[.bool u, .int .u16 k]] W fun e w' => FetchQ W F gc gd gl gk ak s l d M N u k e w') := fun W h => fetch_any h u k HKW.out hi (by omega) hop (flush_ops hi d) hN hM
  clear c hok hi hfi hop hN hM
  go_enter Try.func9, Try.ntmps9
  go_upto_region 1 with fail
  generalize (w.alloc (.cells OA 36)) = W0 at r0 ab ⊢
  obtain ⟨A7, HA7⟩ : ∃ A7, Hid (w.heap.size = A7) := ⟨_, rfl⟩
  rw [HA7.out] at r0 ⊢
  have q0 := HC0.out W0 A7 r0
  have q3 := HC3.out W0 A7 r0
  have q4 := HC4.out W0 A7 r0
  have qi := HCI.out W0 A7 r0
  have hc0 := HC.out.below ab
  have HAB : Hid (Below w.heap.size w W0) := ab
  have tl : Hid (1 = 1) := rfl
  have hfe := HFE.out W0 hc0
  clear hc0
  go_wp2_with (first
    | (have hh := tl; clear hh tl; refine wpList_load_any rfl 31 (.tmp 15) rfl ⟨A7, 1, none⟩ rfl [.bool u, .int .u16 k] _ qi Try.underlying31 rfl (by rw [size31]; rfl) ?_)
    | (have hh := hfe; clear hh; go_at_call 16; refine Calls.mono hfe ?_; clear hfe; rintro e W1 ⟨pp, E, s1, l1, d1, hf, he, hst⟩; obtain rfl := he))
  first
    | go_end0
    | (refine bodyPost_ret (results_none rfl _ _ _) rfl ?_)
  exact HPO.out s1 l1 d1 W1 (Or.inl ⟨rfl, pp, E, hf⟩) (CStep.ahead HAB.out hst)
set_option maxHeartbeats 2000000 in
theorem do_unpin {w : World} {F : Nat → Prop} {gc gd gl gk ak : Nat} {s : Cs} {l : Lg} {d : Dsk} {M : Int} {N : Nat} (c : CL w F gc gd gl gk ak s l d M N) (u : Bool) (k b : Int) (fs : Value) (zl p : List Int) (hok : XO.Ok w ⟨1, u, k, b, fs, zl, p⟩) (hi : l.Inv) (hfi : l.fin ≤ 9223372036854775807) (hop : d.ops + 4000 < 9223372036854775806) (hN : N + 40000 < 1000000000000) (hM : M + 1 < 1000000000000) : Calls Try.prog 9 #[.pointer (some ⟨gd, 0, none⟩), .pointer (some ⟨gl, 0, none⟩), .pointer (some ⟨gc, 0, none⟩), .agg (XO.cells ⟨1, u, k, b, fs, zl, p⟩).toArray] w fun e w' => DoQ w F gc gd gl gk ak s l d M N ⟨1, u, k, b, fs, zl, p⟩ e w' := by
  obtain ⟨PP, HPP⟩ : ∃ PP : Ending → World → Prop, Hid (PP = fun e w' => DoQ w F gc gd gl gk ak s l d M N ⟨1, u, k, b, fs, zl, p⟩ e w') := ⟨_, rfl⟩
  rw [← HPP.out]
  have HPO : Hid (∀ s' l' d' W, DoR s l d ⟨1, u, k, b, fs, zl, p⟩ s' l' d' → CStep w F gc gd gl gk ak s' l' d' (M + 1) (N + 4004) W → PP (.returned (.tuple #[])) W) := by
    rw [HPP.out]
    exact fun s' l' d' W h1 h2 => ⟨s', l', d', h1, rfl, h2⟩
  clear HPP
  have HOK : Hid (XO.Ok w ⟨1, u, k, b, fs, zl, p⟩) := hok
  have HKW : Hid (WfU k) := wfu_mk hok.k
  have HBR : Hid (0 ≤ b ∧ b ≤ 255) := hok.b
  have HNN : Hid (N + 40000 < 1000000000000) := hN
  have HMM : Hid (M + 1 < 1000000000000) := hM
  obtain ⟨OA, HOA⟩ : ∃ OA, Hid ((XO.cells ⟨1, u, k, b, fs, zl, p⟩).toArray = OA) := ⟨_, rfl⟩
  have HC0 : Hid (∀ W A, Row W A OA 36 → W.cell? ⟨A, 0, none⟩ = some (.int .i64 (1))) := fun W A h => row_at h 0 _ (by rw [← HOA.out]; rfl)
  have HC3 : Hid (∀ W A, Row W A OA 36 → W.cell? ⟨A, 3, none⟩ = some (.int .u8 b)) := fun W A h => row_at h 3 _ (by rw [← HOA.out]; rfl)
  have HC4 : Hid (∀ W A, Row W A OA 36 → W.cell? ⟨A, 4, none⟩ = some fs) := fun W A h => row_at h 4 _ (by rw [← HOA.out]; rfl)
  have HCI : Hid (∀ W A, Row W A OA 36 → ∀ j v, ([.bool u, .int .u16 k] : List Value)[j]? = some v → W.cell? ((⟨A, 1, none⟩ : Addr).add j) = some v) := fun W A h j v hj => by
    rw [Addr.add_mid]
    have hj2 : j < 2 := (List.getElem?_eq_some_iff.1 hj).1
    refine row_at h (1 + j) _ ?_
    rw [← HOA.out]
    match j, hj2, hj with
    | 0, _, hj => simpa [XO.cells] using hj
    | 1, _, hj => simpa [XO.cells] using hj
  rw [HOA.out]
  have r0 : Row (w.alloc (.cells OA 36)) w.heap.size OA 36 := Row.new _ _ _
  have ab : Below w.heap.size w (w.alloc (.cells OA 36)) := (Below.refl _ _).alloc (Nat.le_refl _) _
  have HC : Hid (CL w F gc gd gl gk ak s l d M N) := c
  have HFE : Hid (∀ W, CL W F gc gd gl gk ak s l d M N → Calls Try.prog 21 #[.pointer (some ⟨gc, 0, none⟩), .agg #[.bool u, .int .u16 k]] W fun e w' => e = .returned (.int .i64 (unpinE s u k)) ∧ CStep W F gc gd gl gk ak (unpinS s u k) l d M N w') := fun W h => unpin_any h u k HKW.out
  clear c hok hi hfi hop hN hM
  go_enter Try.func9, Try.ntmps9
  go_upto_region 1 with fail
  generalize (w.alloc (.cells OA 36)) = W0 at r0 ab ⊢
  obtain ⟨A7, HA7⟩ : ∃ A7, Hid (w.heap.size = A7) := ⟨_, rfl⟩
  rw [HA7.out] at r0 ⊢
  have q0 := HC0.out W0 A7 r0
  have q3 := HC3.out W0 A7 r0
  have q4 := HC4.out W0 A7 r0
  have qi := HCI.out W0 A7 r0
  have hc0 := HC.out.below ab
  have HAB : Hid (Below w.heap.size w W0) := ab
  have tl : Hid (1 = 1) := rfl
  have hfe := HFE.out W0 hc0
  clear hc0
  go_wp2_with (first
    | (have hh := tl; clear hh tl; refine wpList_load_any rfl 31 (.tmp 21) rfl ⟨A7, 1, none⟩ rfl [.bool u, .int .u16 k] _ qi Try.underlying31 rfl (by rw [size31]; rfl) ?_)
    | (have hh := hfe; clear hh; go_at_call 21; refine Calls.mono hfe ?_; clear hfe; rintro e W1 ⟨he, hst⟩; obtain rfl := he))
  first
    | go_end0
    | (refine bodyPost_ret (results_none rfl _ _ _) rfl ?_)
  exact HPO.out _ l d W1 (Or.inr (Or.inl ⟨rfl, rfl, rfl, rfl⟩)) ((CStep.ahead HAB.out hst).grow (by omega) (by have := HNN.out; omega) |>.growM (by omega) HMM.out)
set_option maxHeartbeats 2000000 in
theorem do_write {w : World} {F : Nat → Prop} {gc gd gl gk ak : Nat} {s : Cs} {l : Lg} {d : Dsk} {M : Int} {N : Nat} (c : CL w F gc gd gl gk ak s l d M N) (u : Bool) (k b : Int) (fs : Value) (zl p : List Int) (hok : XO.Ok w ⟨3, u, k, b, fs, zl, p⟩) (hi : l.Inv) (hfi : l.fin ≤ 9223372036854775807) (hop : d.ops + 4000 < 9223372036854775806) (hN : N + 40000 < 1000000000000) (hM : M + 1 < 1000000000000) : Calls Try.prog 9 #[.pointer (some ⟨gd, 0, none⟩), .pointer (some ⟨gl, 0, none⟩), .pointer (some ⟨gc, 0, none⟩), .agg (XO.cells ⟨3, u, k, b, fs, zl, p⟩).toArray] w fun e w' => DoQ w F gc gd gl gk ak s l d M N ⟨3, u, k, b, fs, zl, p⟩ e w' := by
  obtain ⟨PP, HPP⟩ : ∃ PP : Ending → World → Prop, Hid (PP = fun e w' => DoQ w F gc gd gl gk ak s l d M N ⟨3, u, k, b, fs, zl, p⟩ e w') := ⟨_, rfl⟩
  rw [← HPP.out]
  have HPO : Hid (∀ s' l' d' W, DoR s l d ⟨3, u, k, b, fs, zl, p⟩ s' l' d' → CStep w F gc gd gl gk ak s' l' d' (M + 1) (N + 4004) W → PP (.returned (.tuple #[])) W) := by
    rw [HPP.out]
    exact fun s' l' d' W h1 h2 => ⟨s', l', d', h1, rfl, h2⟩
  clear HPP
  have HOK : Hid (XO.Ok w ⟨3, u, k, b, fs, zl, p⟩) := hok
  have HKW : Hid (WfU k) := wfu_mk hok.k
  have HBR : Hid (0 ≤ b ∧ b ≤ 255) := hok.b
  have HNN : Hid (N + 40000 < 1000000000000) := hN
  have HMM : Hid (M + 1 < 1000000000000) := hM
  obtain ⟨OA, HOA⟩ : ∃ OA, Hid ((XO.cells ⟨3, u, k, b, fs, zl, p⟩).toArray = OA) := ⟨_, rfl⟩
  have HC0 : Hid (∀ W A, Row W A OA 36 → W.cell? ⟨A, 0, none⟩ = some (.int .i64 (3))) := fun W A h => row_at h 0 _ (by rw [← HOA.out]; rfl)
  have HC3 : Hid (∀ W A, Row W A OA 36 → W.cell? ⟨A, 3, none⟩ = some (.int .u8 b)) := fun W A h => row_at h 3 _ (by rw [← HOA.out]; rfl)
  have HC4 : Hid (∀ W A, Row W A OA 36 → W.cell? ⟨A, 4, none⟩ = some fs) := fun W A h => row_at h 4 _ (by rw [← HOA.out]; rfl)
  have HCI : Hid (∀ W A, Row W A OA 36 → ∀ j v, ([.bool u, .int .u16 k] : List Value)[j]? = some v → W.cell? ((⟨A, 1, none⟩ : Addr).add j) = some v) := fun W A h j v hj => by
    rw [Addr.add_mid]
    have hj2 : j < 2 := (List.getElem?_eq_some_iff.1 hj).1
    refine row_at h (1 + j) _ ?_
    rw [← HOA.out]
    match j, hj2, hj with
    | 0, _, hj => simpa [XO.cells] using hj
    | 1, _, hj => simpa [XO.cells] using hj
  rw [HOA.out]
  have r0 : Row (w.alloc (.cells OA 36)) w.heap.size OA 36 := Row.new _ _ _
  have ab : Below w.heap.size w (w.alloc (.cells OA 36)) := (Below.refl _ _).alloc (Nat.le_refl _) _
  have HC : Hid (CL w F gc gd gl gk ak s l d M N) := c
  have HFE : Hid (∀ W, CL W F gc gd gl gk ak s l d M N → Calls Try.prog 25 #[.pointer (some ⟨gc, 0, none⟩), .agg #[.bool u, .int .u16 k]] W fun e w' => e = .returned (.int .i64 (writeR s l d u k).1) ∧ CStep W F gc gd gl gk ak (writeR s l d u k).2.1 (writeR s l d u k).2.2.1 (writeR s l d u k).2.2.2 M (N + 4004) w') := fun W h => cwrite_any h u k HKW.out hi (by omega) (by omega) (flush_ops hi d) (by omega)
  clear c hok hi hfi hop hN hM
  go_enter Try.func9, Try.ntmps9
  go_upto_region 1 with fail
  generalize (w.alloc (.cells OA 36)) = W0 at r0 ab ⊢
  obtain ⟨A7, HA7⟩ : ∃ A7, Hid (w.heap.size = A7) := ⟨_, rfl⟩
  rw [HA7.out] at r0 ⊢
  have q0 := HC0.out W0 A7 r0
  have q3 := HC3.out W0 A7 r0
  have q4 := HC4.out W0 A7 r0
  have qi := HCI.out W0 A7 r0
  have hc0 := HC.out.below ab
  have HAB : Hid (Below w.heap.size w W0) := ab
  have tl : Hid (1 = 1) := rfl
  have hfe := HFE.out W0 hc0
  clear hc0
  go_wp2_with (first
    | (have hh := tl; clear hh tl; refine wpList_load_any rfl 31 (.tmp 46) rfl ⟨A7, 1, none⟩ rfl [.bool u, .int .u16 k] _ qi Try.underlying31 rfl (by rw [size31]; rfl) ?_)
    | (have hh := hfe; clear hh; go_at_call 25; refine Calls.mono hfe ?_; clear hfe; rintro e W1 ⟨he, hst⟩; obtain rfl := he))
  first
    | go_end0
    | (refine bodyPost_ret (results_none rfl _ _ _) rfl ?_)
  exact HPO.out _ _ _ W1 (Or.inr (Or.inr (Or.inr (Or.inl ⟨rfl, rfl, rfl, rfl⟩)))) ((CStep.ahead HAB.out hst).growM (by omega) HMM.out)
set_option maxHeartbeats 2000000 in
theorem do_cold {w : World} {F : Nat → Prop} {gc gd gl gk ak : Nat} {s : Cs} {l : Lg} {d : Dsk} {M : Int} {N : Nat} (c : CL w F gc gd gl gk ak s l d M N) (u : Bool) (k b : Int) (fs : Value) (zl p : List Int) (hok : XO.Ok w ⟨4, u, k, b, fs, zl, p⟩) (hi : l.Inv) (hfi : l.fin ≤ 9223372036854775807) (hop : d.ops + 4000 < 9223372036854775806) (hN : N + 40000 < 1000000000000) (hM : M + 1 < 1000000000000) : Calls Try.prog 9 #[.pointer (some ⟨gd, 0, none⟩), .pointer (some ⟨gl, 0, none⟩), .pointer (some ⟨gc, 0, none⟩), .agg (XO.cells ⟨4, u, k, b, fs, zl, p⟩).toArray] w fun e w' => DoQ w F gc gd gl gk ak s l d M N ⟨4, u, k, b, fs, zl, p⟩ e w' := by
  obtain ⟨PP, HPP⟩ : ∃ PP : Ending → World → Prop, Hid (PP = fun e w' => DoQ w F gc gd gl gk ak s l d M N ⟨4, u, k, b, fs, zl, p⟩ e w') := ⟨_, rfl⟩
  rw [← HPP.out]
  have HPO : Hid (∀ s' l' d' W, DoR s l d ⟨4, u, k, b, fs, zl, p⟩ s' l' d' → CStep w F gc gd gl gk ak s' l' d' (M + 1) (N + 4004) W → PP (.returned (.tuple #[])) W) := by
    rw [HPP.out]
    exact fun s' l' d' W h1 h2 => ⟨s', l', d', h1, rfl, h2⟩
  clear HPP
  have HOK : Hid (XO.Ok w ⟨4, u, k, b, fs, zl, p⟩) := hok
  have HKW : Hid (WfU k) := wfu_mk hok.k
  have HBR : Hid (0 ≤ b ∧ b ≤ 255) := hok.b
  have HNN : Hid (N + 40000 < 1000000000000) := hN
  have HMM : Hid (M + 1 < 1000000000000) := hM
  obtain ⟨OA, HOA⟩ : ∃ OA, Hid ((XO.cells ⟨4, u, k, b, fs, zl, p⟩).toArray = OA) := ⟨_, rfl⟩
  have HC0 : Hid (∀ W A, Row W A OA 36 → W.cell? ⟨A, 0, none⟩ = some (.int .i64 (4))) := fun W A h => row_at h 0 _ (by rw [← HOA.out]; rfl)
  have HC3 : Hid (∀ W A, Row W A OA 36 → W.cell? ⟨A, 3, none⟩ = some (.int .u8 b)) := fun W A h => row_at h 3 _ (by rw [← HOA.out]; rfl)
  have HC4 : Hid (∀ W A, Row W A OA 36 → W.cell? ⟨A, 4, none⟩ = some fs) := fun W A h => row_at h 4 _ (by rw [← HOA.out]; rfl)
  have HCI : Hid (∀ W A, Row W A OA 36 → ∀ j v, ([.bool u, .int .u16 k] : List Value)[j]? = some v → W.cell? ((⟨A, 1, none⟩ : Addr).add j) = some v) := fun W A h j v hj => by
    rw [Addr.add_mid]
    have hj2 : j < 2 := (List.getElem?_eq_some_iff.1 hj).1
    refine row_at h (1 + j) _ ?_
    rw [← HOA.out]
    match j, hj2, hj with
    | 0, _, hj => simpa [XO.cells] using hj
    | 1, _, hj => simpa [XO.cells] using hj
  rw [HOA.out]
  have r0 : Row (w.alloc (.cells OA 36)) w.heap.size OA 36 := Row.new _ _ _
  have ab : Below w.heap.size w (w.alloc (.cells OA 36)) := (Below.refl _ _).alloc (Nat.le_refl _) _
  have HC : Hid (CL w F gc gd gl gk ak s l d M N) := c
  have HFE : Hid (∀ W bb, CL W F gc gd gl gk ak s l d M N → Calls Try.prog 36 #[.pointer (some ⟨gc, 0, none⟩), .agg #[.bool u, .int .u16 k], .bool bb] W fun e w' => e = .returned (.tuple #[]) ∧ CStep W F gc gd gl gk ak (coldS s u k bb) l d M N w') := fun W bb h => ccold_any h u k HKW.out bb
  have hw2 : IntKind.u8.wrap (b.tmod 2) = b % 2 := by
    have := HBR.out
    rw [IntKind.wrap_u8, Int.tmod_eq_emod_of_nonneg (by omega)]; omega
  have hw3 : b.tmod 2 = b % 2 := by have := HBR.out; exact Int.tmod_eq_emod_of_nonneg (by omega)
  obtain ⟨bb, HBB⟩ : ∃ bb, Hid ((b % 2 == 1) = bb) := ⟨_, rfl⟩
  have HBD : Hid (decide (b % 2 = 1) = bb) := by show _ = _; rw [← HBB.out]; rfl
  have hbq := HBB.out
  clear c hok hi hfi hop hN hM
  go_enter Try.func9, Try.ntmps9
  go_upto_region 1 with fail
  generalize (w.alloc (.cells OA 36)) = W0 at r0 ab ⊢
  obtain ⟨A7, HA7⟩ : ∃ A7, Hid (w.heap.size = A7) := ⟨_, rfl⟩
  rw [HA7.out] at r0 ⊢
  have q0 := HC0.out W0 A7 r0
  have q3 := HC3.out W0 A7 r0
  have q4 := HC4.out W0 A7 r0
  have qi := HCI.out W0 A7 r0
  have hc0 := HC.out.below ab
  have HAB : Hid (Below w.heap.size w W0) := ab
  have tl : Hid (1 = 1) := rfl
  have hfe := HFE.out W0 bb hc0
  clear hc0
  go_wp2_with (first
    | (have hh := tl; clear hh tl; refine wpList_load_any rfl 31 (.tmp 52) rfl ⟨A7, 1, none⟩ rfl [.bool u, .int .u16 k] _ qi Try.underlying31 rfl (by rw [size31]; rfl) ?_)
    | (have hh := hfe; clear hh; go_at_call 36; refine Calls.mono hfe ?_; clear hfe; rintro e W1 ⟨he, hst⟩; obtain rfl := he))
  first
    | go_end0
    | (refine bodyPost_ret (results_none rfl _ _ _) rfl ?_)
  exact HPO.out _ l d W1 (Or.inr (Or.inr (Or.inr (Or.inr (Or.inl ⟨rfl, by rw [HBD.out], rfl, rfl⟩))))) ((CStep.ahead HAB.out hst).grow (by omega) (by have := HNN.out; omega) |>.growM (by omega) HMM.out)
set_option maxHeartbeats 2000000 in
theorem do_more {w : World} {F : Nat → Prop} {gc gd gl gk ak : Nat} {s : Cs} {l : Lg} {d : Dsk} {M : Int} {N : Nat} (c : CL w F gc gd gl gk ak s l d M N) (u : Bool) (k b : Int) (fs : Value) (zl p : List Int) (hok : XO.Ok w ⟨5, u, k, b, fs, zl, p⟩) (hi : l.Inv) (hfi : l.fin ≤ 9223372036854775807) (hop : d.ops + 4000 < 9223372036854775806) (hN : N + 40000 < 1000000000000) (hM : M + 1 < 1000000000000) : Calls Try.prog 9 #[.pointer (some ⟨gd, 0, none⟩), .pointer (some ⟨gl, 0, none⟩), .pointer (some ⟨gc, 0, none⟩), .agg (XO.cells ⟨5, u, k, b, fs, zl, p⟩).toArray] w fun e w' => DoQ w F gc gd gl gk ak s l d M N ⟨5, u, k, b, fs, zl, p⟩ e w' := by
  obtain ⟨PP, HPP⟩ : ∃ PP : Ending → World → Prop, Hid (PP = fun e w' => DoQ w F gc gd gl gk ak s l d M N ⟨5, u, k, b, fs, zl, p⟩ e w') := ⟨_, rfl⟩
  rw [← HPP.out]
  have HPO : Hid (∀ s' l' d' W, DoR s l d ⟨5, u, k, b, fs, zl, p⟩ s' l' d' → CStep w F gc gd gl gk ak s' l' d' (M + 1) (N + 4004) W → PP (.returned (.tuple #[])) W) := by
    rw [HPP.out]
    exact fun s' l' d' W h1 h2 => ⟨s', l', d', h1, rfl, h2⟩
  clear HPP
  have HOK : Hid (XO.Ok w ⟨5, u, k, b, fs, zl, p⟩) := hok
  have HKW : Hid (WfU k) := wfu_mk hok.k
  have HBR : Hid (0 ≤ b ∧ b ≤ 255) := hok.b
  have HNN : Hid (N + 40000 < 1000000000000) := hN
  have HMM : Hid (M + 1 < 1000000000000) := hM
  obtain ⟨OA, HOA⟩ : ∃ OA, Hid ((XO.cells ⟨5, u, k, b, fs, zl, p⟩).toArray = OA) := ⟨_, rfl⟩
  have HC0 : Hid (∀ W A, Row W A OA 36 → W.cell? ⟨A, 0, none⟩ = some (.int .i64 (5))) := fun W A h => row_at h 0 _ (by rw [← HOA.out]; rfl)
  have HC3 : Hid (∀ W A, Row W A OA 36 → W.cell? ⟨A, 3, none⟩ = some (.int .u8 b)) := fun W A h => row_at h 3 _ (by rw [← HOA.out]; rfl)
  have HC4 : Hid (∀ W A, Row W A OA 36 → W.cell? ⟨A, 4, none⟩ = some fs) := fun W A h => row_at h 4 _ (by rw [← HOA.out]; rfl)
  have HCI : Hid (∀ W A, Row W A OA 36 → ∀ j v, ([.bool u, .int .u16 k] : List Value)[j]? = some v → W.cell? ((⟨A, 1, none⟩ : Addr).add j) = some v) := fun W A h j v hj => by
    rw [Addr.add_mid]
    have hj2 : j < 2 := (List.getElem?_eq_some_iff.1 hj).1
    refine row_at h (1 + j) _ ?_
    rw [← HOA.out]
    match j, hj2, hj with
    | 0, _, hj => simpa [XO.cells] using hj
    | 1, _, hj => simpa [XO.cells] using hj
  rw [HOA.out]
  have r0 : Row (w.alloc (.cells OA 36)) w.heap.size OA 36 := Row.new _ _ _
  have ab : Below w.heap.size w (w.alloc (.cells OA 36)) := (Below.refl _ _).alloc (Nat.le_refl _) _
  have HC : Hid (CL w F gc gd gl gk ak s l d M N) := c
  have HFE : Hid (∀ W, CL W F gc gd gl gk ak s l d M N → Calls Try.prog 17 #[.pointer (some ⟨gl, 0, none⟩), .string { data := #[109, 111, 114, 101] }] W fun e w' => e = .returned (.tuple #[.int .u64 (appA l moreB4), .int .i64 (appE l moreB4)]) ∧ CStep W F gc gd gl gk ak s (appL l moreB4) d M N w') := fun W h => h.append hi hfi moreB4 (by decide)
  clear c hok hi hfi hop hN hM
  go_enter Try.func9, Try.ntmps9
  go_upto_region 1 with fail
  generalize (w.alloc (.cells OA 36)) = W0 at r0 ab ⊢
  obtain ⟨A7, HA7⟩ : ∃ A7, Hid (w.heap.size = A7) := ⟨_, rfl⟩
  rw [HA7.out] at r0 ⊢
  have q0 := HC0.out W0 A7 r0
  have q3 := HC3.out W0 A7 r0
  have q4 := HC4.out W0 A7 r0
  have qi := HCI.out W0 A7 r0
  have hc0 := HC.out.below ab
  have HAB : Hid (Below w.heap.size w W0) := ab
  have tl : Hid (1 = 1) := rfl
  have hfe := HFE.out W0 hc0
  clear hc0
  go_wp2_with (first
    | (have hh := hfe; clear hh; go_at_call 17; refine Calls.mono hfe ?_; clear hfe; rintro e W1 ⟨he, hst⟩; obtain rfl := he))
  first
    | go_end0
    | (refine bodyPost_ret (results_none rfl _ _ _) rfl ?_)
  exact HPO.out s _ d W1 (Or.inr (Or.inr (Or.inr (Or.inr (Or.inr (Or.inl ⟨rfl, rfl, rfl, rfl⟩)))))) ((CStep.ahead HAB.out hst).grow (by omega) (by have := HNN.out; omega) |>.growM (by omega) HMM.out)
set_option maxHeartbeats 2000000 in
theorem do_other {w : World} {F : Nat → Prop} {gc gd gl gk ak : Nat} {s : Cs} {l : Lg} {d : Dsk} {M : Int} {N : Nat} (c : CL w F gc gd gl gk ak s l d M N) (u : Bool) (k b : Int) (fs : Value) (zl p : List Int) (kd : Int) (n0 : kd ≠ 0) (n1 : kd ≠ 1) (n2 : kd ≠ 2) (n3 : kd ≠ 3) (n4 : kd ≠ 4) (n5 : kd ≠ 5) (n6 : kd ≠ 6) (hok : XO.Ok w ⟨kd, u, k, b, fs, zl, p⟩) (hi : l.Inv) (hfi : l.fin ≤ 9223372036854775807) (hop : d.ops + 4000 < 9223372036854775806) (hN : N + 40000 < 1000000000000) (hM : M + 1 < 1000000000000) : Calls Try.prog 9 #[.pointer (some ⟨gd, 0, none⟩), .pointer (some ⟨gl, 0, none⟩), .pointer (some ⟨gc, 0, none⟩), .agg (XO.cells ⟨kd, u, k, b, fs, zl, p⟩).toArray] w fun e w' => DoQ w F gc gd gl gk ak s l d M N ⟨kd, u, k, b, fs, zl, p⟩ e w' := by
  obtain ⟨PP, HPP⟩ : ∃ PP : Ending → World → Prop, Hid (PP = fun e w' => DoQ w F gc gd gl gk ak s l d M N ⟨kd, u, k, b, fs, zl, p⟩ e w') := ⟨_, rfl⟩
  rw [← HPP.out]
  have HPO : Hid (∀ s' l' d' W, DoR s l d ⟨kd, u, k, b, fs, zl, p⟩ s' l' d' → CStep w F gc gd gl gk ak s' l' d' (M + 1) (N + 4004) W → PP (.returned (.tuple #[])) W) := by
    rw [HPP.out]
    exact fun s' l' d' W h1 h2 => ⟨s', l', d', h1, rfl, h2⟩
  clear HPP
  have HOK : Hid (XO.Ok w ⟨kd, u, k, b, fs, zl, p⟩) := hok
  have HKW : Hid (WfU k) := wfu_mk hok.k
  have HBR : Hid (0 ≤ b ∧ b ≤ 255) := hok.b
  have HNN : Hid (N + 40000 < 1000000000000) := hN
  have HMM : Hid (M + 1 < 1000000000000) := hM
  obtain ⟨OA, HOA⟩ : ∃ OA, Hid ((XO.cells ⟨kd, u, k, b, fs, zl, p⟩).toArray = OA) := ⟨_, rfl⟩
  have HC0 : Hid (∀ W A, Row W A OA 36 → W.cell? ⟨A, 0, none⟩ = some (.int .i64 (kd))) := fun W A h => row_at h 0 _ (by rw [← HOA.out]; rfl)
  have HC3 : Hid (∀ W A, Row W A OA 36 → W.cell? ⟨A, 3, none⟩ = some (.int .u8 b)) := fun W A h => row_at h 3 _ (by rw [← HOA.out]; rfl)
  have HC4 : Hid (∀ W A, Row W A OA 36 → W.cell? ⟨A, 4, none⟩ = some fs) := fun W A h => row_at h 4 _ (by rw [← HOA.out]; rfl)
  have HCI : Hid (∀ W A, Row W A OA 36 → ∀ j v, ([.bool u, .int .u16 k] : List Value)[j]? = some v → W.cell? ((⟨A, 1, none⟩ : Addr).add j) = some v) := fun W A h j v hj => by
    rw [Addr.add_mid]
    have hj2 : j < 2 := (List.getElem?_eq_some_iff.1 hj).1
    refine row_at h (1 + j) _ ?_
    rw [← HOA.out]
    match j, hj2, hj with
    | 0, _, hj => simpa [XO.cells] using hj
    | 1, _, hj => simpa [XO.cells] using hj
  rw [HOA.out]
  have r0 : Row (w.alloc (.cells OA 36)) w.heap.size OA 36 := Row.new _ _ _
  have ab : Below w.heap.size w (w.alloc (.cells OA 36)) := (Below.refl _ _).alloc (Nat.le_refl _) _
  have HC : Hid (CL w F gc gd gl gk ak s l d M N) := c
  clear c hok hi hfi hop hN hM
  go_enter Try.func9, Try.ntmps9
  go_upto_region 1 with fail
  generalize (w.alloc (.cells OA 36)) = W0 at r0 ab ⊢
  obtain ⟨A7, HA7⟩ : ∃ A7, Hid (w.heap.size = A7) := ⟨_, rfl⟩
  rw [HA7.out] at r0 ⊢
  have q0 := HC0.out W0 A7 r0
  have q3 := HC3.out W0 A7 r0
  have q4 := HC4.out W0 A7 r0
  have qi := HCI.out W0 A7 r0
  have hc0 := HC.out.below ab
  have HAB : Hid (Below w.heap.size w W0) := ab
  have tl : Hid (1 = 1) := rfl
  have z0 : (kd == 0) = false := by simpa using n0
  have z1 : (kd == 1) = false := by simpa using n1
  have z2 : (kd == 2) = false := by simpa using n2
  have z3 : (kd == 3) = false := by simpa using n3
  have z4 : (kd == 4) = false := by simpa using n4
  have z5 : (kd == 5) = false := by simpa using n5
  have z6 : (kd == 6) = false := by simpa using n6
  have HNE : Hid (kd ≠ 0 ∧ kd ≠ 1 ∧ kd ≠ 2 ∧ kd ≠ 3 ∧ kd ≠ 4 ∧ kd ≠ 5 ∧ kd ≠ 6) := ⟨n0, n1, n2, n3, n4, n5, n6⟩
  clear n0 n1 n2 n3 n4 n5 n6
  go_wp2
  first
    | go_end0
    | (refine bodyPost_ret (results_none rfl _ _ _) rfl ?_)
  exact HPO.out s l d W0 (Or.inr (Or.inr (Or.inr (Or.inr (Or.inr (Or.inr (Or.inr ⟨HNE.out.1, HNE.out.2.1, HNE.out.2.2.1, HNE.out.2.2.2.1, HNE.out.2.2.2.2.1, HNE.out.2.2.2.2.2.1, HNE.out.2.2.2.2.2.2, rfl, rfl, rfl⟩))))))) ((CStep.same HC.out HAB.out).grow (by omega) (by have := HNN.out; omega) |>.growM (by omega) HMM.out)
set_option maxHeartbeats 2000000 in
theorem do_plan {w : World} {F : Nat → Prop} {gc gd gl gk ak : Nat} {s : Cs} {l : Lg} {d : Dsk} {M : Int} {N : Nat} (c : CL w F gc gd gl gk ak s l d M N) (u : Bool) (k b : Int) (fs : Value) (zl p : List Int) (hok : XO.Ok w ⟨6, u, k, b, fs, zl, p⟩) (hi : l.Inv) (hfi : l.fin ≤ 9223372036854775807) (hop : d.ops + 4000 < 9223372036854775806) (hN : N + 40000 < 1000000000000) (hM : M + 1 < 1000000000000) : Calls Try.prog 9 #[.pointer (some ⟨gd, 0, none⟩), .pointer (some ⟨gl, 0, none⟩), .pointer (some ⟨gc, 0, none⟩), .agg (XO.cells ⟨6, u, k, b, fs, zl, p⟩).toArray] w fun e w' => DoQ w F gc gd gl gk ak s l d M N ⟨6, u, k, b, fs, zl, p⟩ e w' := by
  obtain ⟨PP, HPP⟩ : ∃ PP : Ending → World → Prop, Hid (PP = fun e w' => DoQ w F gc gd gl gk ak s l d M N ⟨6, u, k, b, fs, zl, p⟩ e w') := ⟨_, rfl⟩
  rw [← HPP.out]
  have HPO : Hid (∀ s' l' d' W, DoR s l d ⟨6, u, k, b, fs, zl, p⟩ s' l' d' → CStep w F gc gd gl gk ak s' l' d' (M + 1) (N + 4004) W → PP (.returned (.tuple #[])) W) := by
    rw [HPP.out]
    exact fun s' l' d' W h1 h2 => ⟨s', l', d', h1, rfl, h2⟩
  clear HPP
  have HOK : Hid (XO.Ok w ⟨6, u, k, b, fs, zl, p⟩) := hok
  have HKW : Hid (WfU k) := wfu_mk hok.k
  have HBR : Hid (0 ≤ b ∧ b ≤ 255) := hok.b
  have HNN : Hid (N + 40000 < 1000000000000) := hN
  have HMM : Hid (M + 1 < 1000000000000) := hM
  obtain ⟨OA, HOA⟩ : ∃ OA, Hid ((XO.cells ⟨6, u, k, b, fs, zl, p⟩).toArray = OA) := ⟨_, rfl⟩
  have HC0 : Hid (∀ W A, Row W A OA 36 → W.cell? ⟨A, 0, none⟩ = some (.int .i64 (6))) := fun W A h => row_at h 0 _ (by rw [← HOA.out]; rfl)
  have HC3 : Hid (∀ W A, Row W A OA 36 → W.cell? ⟨A, 3, none⟩ = some (.int .u8 b)) := fun W A h => row_at h 3 _ (by rw [← HOA.out]; rfl)
  have HC4 : Hid (∀ W A, Row W A OA 36 → W.cell? ⟨A, 4, none⟩ = some fs) := fun W A h => row_at h 4 _ (by rw [← HOA.out]; rfl)
  have HCI : Hid (∀ W A, Row W A OA 36 → ∀ j v, ([.bool u, .int .u16 k] : List Value)[j]? = some v → W.cell? ((⟨A, 1, none⟩ : Addr).add j) = some v) := fun W A h j v hj => by
    rw [Addr.add_mid]
    have hj2 : j < 2 := (List.getElem?_eq_some_iff.1 hj).1
    refine row_at h (1 + j) _ ?_
    rw [← HOA.out]
    match j, hj2, hj with
    | 0, _, hj => simpa [XO.cells] using hj
    | 1, _, hj => simpa [XO.cells] using hj
  rw [HOA.out]
  have r0 : Row (w.alloc (.cells OA 36)) w.heap.size OA 36 := Row.new _ _ _
  have ab : Below w.heap.size w (w.alloc (.cells OA 36)) := (Below.refl _ _).alloc (Nat.le_refl _) _
  have HC : Hid (CL w F gc gd gl gk ak s l d M N) := c
  have HFE : Hid (∀ W v, CL W F gc gd gl gk ak s l d M N → Cel W v (zl.map (.int .i64)) → (∀ a n c, v = .slice (some a) n c → a.block ≠ gd) → Calls Try.prog 24 #[.pointer (some ⟨gd, 0, none⟩), v, .int .i64 0] W fun e w' => e = .returned (.tuple #[]) ∧ CStep W F gc gd gl gk ak s l (d.plan zl 0) M N w') := fun W v h1 h2 h3 => h1.plan v zl h2 h3 hok.zw hok.zl
  have HGD : Hid (gd < w.heap.size) := c.lt gd c.gd
  have HCE : Hid (Cel w fs (zl.map (.int .i64))) := hok.fs
  obtain ⟨i, hiF, hz0, hs, hby⟩ := info_parts info3
  have HZL : Hid (zl.length * 8 ≤ 140737488355328) := hok.zl
  clear c hok hi hfi hop hN hM
  go_enter Try.func9, Try.ntmps9
  go_upto_region 1 with fail
  generalize (w.alloc (.cells OA 36)) = W0 at r0 ab ⊢
  obtain ⟨A7, HA7⟩ : ∃ A7, Hid (w.heap.size = A7) := ⟨_, rfl⟩
  rw [HA7.out] at r0 ⊢
  have q0 := HC0.out W0 A7 r0
  have q3 := HC3.out W0 A7 r0
  have q4 := HC4.out W0 A7 r0
  have qi := HCI.out W0 A7 r0
  have hc0 := HC.out.below ab
  have HAB : Hid (Below w.heap.size w W0) := ab
  have tl : Hid (1 = 1) := rfl
  have hcel := HCE.out.keep HAB.out
  have HRC : Hid (∀ ty, ∃ v' w', (Builtin.append_ #[32, 32] ty #[.slice (some ⟨W0.heap.size, 0, none⟩) 0 0, fs]).run Try.prog (W0.alloc (.cells #[] 3)) = .ok v' w' ∧ (Cel w' v' (zl.map (.int .i64)) ∧ High W0.heap.size v' ∧ Below W0.heap.size W0 w')) := fun ty => run_copy (P := Try.prog) W0 32 ty 3 i _ 8 Try.underlying32 hiF hz0 hs hby rfl fs (zl.map (.int .i64)) hcel (by intro u hu; obtain ⟨z, _, rfl⟩ := List.mem_map.1 hu; rfl) (by rw [List.length_map]; exact HZL.out) (by decide)
  have q4a : (W0.alloc (.cells #[] 3)).cell? ⟨A7, 4, none⟩ = some fs := HC4.out _ A7 (r0.alloc _)
  go_wp2_with (first
    | (refine Ck.wpList_copy rfl (.tmp 66) (.tmp 68) 32 rfl _ _ rfl rfl HRC.out ?_; rintro v1 W1 ⟨hcl, hhi, hb1⟩; have hfe := HFE.out W1 v1 (hc0.below hb1) hcl (fun a n cc e => by have h1 := hhi a n cc e; have := HGD.out; have := HAB.out.size; omega))
    | (have hh := hfe; clear hh; go_at_call 24; refine Calls.mono hfe ?_; clear hfe; rintro e W2 ⟨he, hst⟩; obtain rfl := he))
  first
    | go_end0
    | (refine bodyPost_ret (results_none rfl _ _ _) rfl ?_)
  exact HPO.out s l _ W2 (Or.inr (Or.inr (Or.inr (Or.inr (Or.inr (Or.inr (Or.inl ⟨rfl, rfl, rfl, rfl⟩))))))) ((CStep.ahead (HAB.out.trans (hb1.mono HAB.out.size)) hst).grow (by omega) (by have := HNN.out; omega) |>.growM (by omega) HMM.out)
set_option maxHeartbeats 2000000 in
theorem do_put {w : World} {F : Nat → Prop} {gc gd gl gk ak : Nat} {s : Cs} {l : Lg} {d : Dsk} {M : Int} {N : Nat} (c : CL w F gc gd gl gk ak s l d M N) (u : Bool) (k b : Int) (fs : Value) (zl p : List Int) (hok : XO.Ok w ⟨2, u, k, b, fs, zl, p⟩) (hi : l.Inv) (hfi : l.fin ≤ 9223372036854775807) (hop : d.ops + 4000 < 9223372036854775806) (hN : N + 40000 < 1000000000000) (hM : M + 1 < 1000000000000) : Calls Try.prog 9 #[.pointer (some ⟨gd, 0, none⟩), .pointer (some ⟨gl, 0, none⟩), .pointer (some ⟨gc, 0, none⟩), .agg (XO.cells ⟨2, u, k, b, fs, zl, p⟩).toArray] w fun e w' => DoQ w F gc gd gl gk ak s l d M N ⟨2, u, k, b, fs, zl, p⟩ e w' := by
  obtain ⟨PP, HPP⟩ : ∃ PP : Ending → World → Prop, Hid (PP = fun e w' => DoQ w F gc gd gl gk ak s l d M N ⟨2, u, k, b, fs, zl, p⟩ e w') := ⟨_, rfl⟩
  rw [← HPP.out]
  have HPO : Hid (∀ s' l' d' W, DoR s l d ⟨2, u, k, b, fs, zl, p⟩ s' l' d' → CStep w F gc gd gl gk ak s' l' d' (M + 1) (N + 4004) W → PP (.returned (.tuple #[])) W) := by
    rw [HPP.out]
    exact fun s' l' d' W h1 h2 => ⟨s', l', d', h1, rfl, h2⟩
  clear HPP
  have HOK : Hid (XO.Ok w ⟨2, u, k, b, fs, zl, p⟩) := hok
  have HKW : Hid (WfU k) := wfu_mk hok.k
  have HBR : Hid (0 ≤ b ∧ b ≤ 255) := hok.b
  have HNN : Hid (N + 40000 < 1000000000000) := hN
  have HMM : Hid (M + 1 < 1000000000000) := hM
  obtain ⟨OA, HOA⟩ : ∃ OA, Hid ((XO.cells ⟨2, u, k, b, fs, zl, p⟩).toArray = OA) := ⟨_, rfl⟩
  have HC0 : Hid (∀ W A, Row W A OA 36 → W.cell? ⟨A, 0, none⟩ = some (.int .i64 (2))) := fun W A h => row_at h 0 _ (by rw [← HOA.out]; rfl)
  have HC3 : Hid (∀ W A, Row W A OA 36 → W.cell? ⟨A, 3, none⟩ = some (.int .u8 b)) := fun W A h => row_at h 3 _ (by rw [← HOA.out]; rfl)
  have HC4 : Hid (∀ W A, Row W A OA 36 → W.cell? ⟨A, 4, none⟩ = some fs) := fun W A h => row_at h 4 _ (by rw [← HOA.out]; rfl)
  have HCI : Hid (∀ W A, Row W A OA 36 → ∀ j v, ([.bool u, .int .u16 k] : List Value)[j]? = some v → W.cell? ((⟨A, 1, none⟩ : Addr).add j) = some v) := fun W A h j v hj => by
    rw [Addr.add_mid]
    have hj2 : j < 2 := (List.getElem?_eq_some_iff.1 hj).1
    refine row_at h (1 + j) _ ?_
    rw [← HOA.out]
    match j, hj2, hj with
    | 0, _, hj => simpa [XO.cells] using hj
    | 1, _, hj => simpa [XO.cells] using hj
  rw [HOA.out]
  have r0 : Row (w.alloc (.cells OA 36)) w.heap.size OA 36 := Row.new _ _ _
  have ab : Below w.heap.size w (w.alloc (.cells OA 36)) := (Below.refl _ _).alloc (Nat.le_refl _) _
  have HC : Hid (CL w F gc gd gl gk ak s l d M N) := c
  have HFE : Hid (∀ W, CL W F gc gd gl gk ak s l d M N → Calls Try.prog 17 #[.pointer (some ⟨gl, 0, none⟩), .string { data := #[112, 117, 116] }] W fun e w' => e = .returned (.tuple #[.int .u64 (appA l putB3), .int .i64 (appE l putB3)]) ∧ CStep W F gc gd gl gk ak s (appL l putB3) d M N w') := fun W h => h.append hi hfi putB3 (by decide)
  have HAR : Hid (0 ≤ appA l putB3 ∧ appA l putB3 ≤ 18446744073709551615) := by
    have := hi.fin
    unfold appA
    show 0 ≤ (if okA l putB3 = true then l.fin else 0) ∧ (if okA l putB3 = true then l.fin else 0) ≤ 18446744073709551615
    split <;> omega
  have HFL : Hid (∀ W, Calls Try.prog 19 #[.agg #[.bool u, .int .u16 k], .int .u8 b, .int .u64 (appA l putB3)] W fun e w' => e = .returned (.agg (bs (fillP u k b (appA l putB3)))) ∧ Below W.heap.size W w') := fun W => fill_any u k b (appA l putB3) HKW.out HBR.out HAR.out W
  obtain ⟨at0, HAT⟩ : ∃ at0, Hid (appA l putB3 = at0) := ⟨_, rfl⟩
  obtain ⟨ae, HAE⟩ : ∃ ae, Hid (appE l putB3 = ae) := ⟨_, rfl⟩
  rw [HAT.out] at HFL
  rw [HAT.out, HAE.out] at HFE
  clear c hok hi hfi hop hN hM
  go_enter Try.func9, Try.ntmps9
  go_upto_region 1 with fail
  generalize (w.alloc (.cells OA 36)) = W0 at r0 ab ⊢
  obtain ⟨A7, HA7⟩ : ∃ A7, Hid (w.heap.size = A7) := ⟨_, rfl⟩
  rw [HA7.out] at r0 ⊢
  have q0 := HC0.out W0 A7 r0
  have q3 := HC3.out W0 A7 r0
  have q4 := HC4.out W0 A7 r0
  have qi := HCI.out W0 A7 r0
  have hc0 := HC.out.below ab
  have HAB : Hid (Below w.heap.size w W0) := ab
  have tl : Hid (1 = 1) := rfl
  have hfe := HFE.out W0 hc0
  clear hc0
  by_cases hE : ae = 0
  · subst hE
    go_upto_region 9 with (first
      | (have hh := hfe; clear hh; go_at_call 17; refine Calls.mono hfe ?_; clear hfe; rintro e W1 ⟨he, hst⟩; obtain rfl := he))
    have hnA : ¬ F A7 := fun q => by have := HC.out.lt _ q; have := HA7.out; omega
    have r1 := r0.off hst.1 hnA
    have HST1 : Hid (CStep w F gc gd gl gk ak s (appL l putB3) d M N W1) := CStep.ahead HAB.out hst
    have hcl : ∃ F1, Off F W0 W1 ∧ CL W1 F1 gc gd gl gk ak s (appL l putB3) d M N ∧ (∀ k, k < W0.heap.size → F1 k → F k) := by
      obtain ⟨o, F1, c1, k1⟩ := hst
      exact ⟨F1, o, c1, k1⟩
    obtain ⟨F1, o1, c1, k1⟩ := hcl
    have HO1 : Hid (Off F W0 W1 ∧ (∀ k, k < W0.heap.size → F1 k → F k) ∧ A7 < W0.heap.size) := ⟨o1, k1, r0.lt⟩
    refine wp_region_held_drew (S := fun W => Row W A7 OA 36) (by kernel_rfl) r1 fun hS => ?_
    have cd := c1.below (below_drew W1)
    have bd : Below W1.heap.size W1 W1.drew := below_drew W1
    clear hst o1 k1 c1 r1 r0 qi q0 q3 q4
    generalize W1.drew = W2 at hS cd bd ⊢
    refine tkI (i := 0) (v := .pointer (some ⟨gc, 0, none⟩)) rfl (Or.inl ⟨by rfl, fun w _ => by rfl⟩) hS ?_
    try simp only [Act.put, nz]
    refine tkI (i := 1) (v := .pointer (some ⟨A7, 1, none⟩)) rfl (Or.inl ⟨by rfl, fun w _ => by go_simp⟩) hS ?_
    try simp only [Act.put, nz]
    refine tkI (i := 2) (v := .agg #[.bool u, .int .u16 k]) rfl (yields_any (by rfl) 31 (.tmp 34) rfl ⟨A7, 1, none⟩ rfl [.bool u, .int .u16 k] _ (fun W h => HCI.out W A7 h) Try.underlying31 rfl (by rw [size31]; rfl)) hS ?_
    try simp only [Act.put, nz]
    refine tkI (i := 3) (v := .pointer (some ⟨A7, 1, none⟩)) rfl (Or.inl ⟨by rfl, fun w _ => by go_simp⟩) hS ?_
    try simp only [Act.put, nz]
    refine tkI (i := 4) (v := .agg #[.bool u, .int .u16 k]) rfl (yields_any (by rfl) 31 (.tmp 36) rfl ⟨A7, 1, none⟩ rfl [.bool u, .int .u16 k] _ (fun W h => HCI.out W A7 h) Try.underlying31 rfl (by rw [size31]; rfl)) hS ?_
    try simp only [Act.put, nz]
    refine tkI (i := 5) (v := .pointer (some ⟨A7, 3, none⟩)) rfl (Or.inl ⟨by rfl, fun w _ => by go_simp⟩) hS ?_
    try simp only [Act.put, nz]
    refine tkI (i := 6) (v := .int .u8 b) rfl (Or.inl ⟨by rfl, fun W h => by have c := HC3.out W A7 h; go_simp⟩) hS ?_
    try simp only [Act.put, nz]
    refine tkI (i := 7) (v := .int .u64 at0) rfl (Or.inl ⟨by rfl, fun w _ => by rfl⟩) hS ?_
    try simp only [Act.put, nz]
    refine wpAnyH_ready (rs := [8]) (by kernel_rfl) (by simp) ?_
    refine (AllReadyH.cons rfl (fun K hK => ?_) AllReadyH.nil)
    have hfl := HFL.out W2
    go_simp
    go_at_call 19
    refine Calls.mono hfl ?_
    clear hfl
    rintro e W3 ⟨he, hb3⟩
    obtain rfl := he
    have c3 := cd.below hb3
    have b3 := bd.trans (hb3.mono bd.size)
    refine hK.out _ _ (hS.below hb3 hS.lt) fun hS => ?_
    try simp only [Act.put, nz]
    clear cd bd hb3
    refine wpAnyH_ready (rs := [9]) (by kernel_rfl) (by simp) ?_
    refine (AllReadyH.cons rfl (fun K hK => ?_) AllReadyH.nil)
    have hpu := cput_any c3 u k HKW.out (fillP u k b at0) (fillP_length _ _ _ _) (fillP_bytes _ _ _ _)
    unfold idv at hpu
    go_simp
    go_at_call 18
    refine Calls.mono hpu ?_
    clear hpu
    rintro e W4 ⟨he, hst4⟩
    obtain rfl := he
    have r4 := hS.off hst4.1 (fun q => hnA (HO1.out.2.1 A7 HO1.out.2.2 q))
    refine hK.out _ _ r4 fun hS => ?_
    try simp only [Act.put, nz]
    refine wpAnyH_done (by kernel_rfl) ?_ _
    go_wp2
    first
      | go_end0
      | (refine bodyPost_ret (results_none rfl _ _ _) rfl ?_)
    refine HPO.out _ _ d W4 (Or.inr (Or.inr (Or.inl ⟨rfl, by rw [HAE.out, if_pos rfl, HAT.out], rfl, rfl⟩))) ?_
    have h9 : CStep w F gc gd gl gk ak (putS s u k (fillP u k b at0)) (appL l putB3) d M N W4 := by
      refine CStep.behind2 ((Off.of_below (F := F) HAB.out).trans (HO1.out.1.trans (Off.of_below (F := F) b3) (fun j q => Or.inl q)) (fun j q => Or.inl q)) (fun j hj q => HO1.out.2.1 j (Nat.lt_of_lt_of_le hj HAB.out.size) q) hst4
    exact h9.grow (by omega) (by have := HNN.out; omega) |>.growM (by omega) HMM.out
  · have k7 : (ae == 0) = false := by simpa using hE
    have HE : Hid (¬ ae = 0) := hE
    clear hE
    go_wp2_with (first
      | (have hh := hfe; clear hh; go_at_call 17; refine Calls.mono hfe ?_; clear hfe; rintro e W1 ⟨he, hst⟩; obtain rfl := he))
    first
      | go_end0
      | (refine bodyPost_ret (results_none rfl _ _ _) rfl ?_)
    exact HPO.out s _ d W1 (Or.inr (Or.inr (Or.inl ⟨rfl, by rw [HAE.out, if_neg HE.out], rfl, rfl⟩))) ((CStep.ahead HAB.out hst).grow (by omega) (by have := HNN.out; omega) |>.growM (by omega) HMM.out)
theorem do_any {w : World} {F : Nat → Prop} {gc gd gl gk ak : Nat} {s : Cs} {l : Lg} {d : Dsk} {M : Int} {N : Nat} (c : CL w F gc gd gl gk ak s l d M N) (o : XO) (hok : o.Ok w) (hi : l.Inv) (hfi : l.fin ≤ 9223372036854775807) (hop : d.ops + 4000 < 9223372036854775806) (hN : N + 40000 < 1000000000000) (hM : M + 1 < 1000000000000) : Calls Try.prog 9 #[.pointer (some ⟨gd, 0, none⟩), .pointer (some ⟨gl, 0, none⟩), .pointer (some ⟨gc, 0, none⟩), .agg o.cells.toArray] w fun e w' => DoQ w F gc gd gl gk ak s l d M N o e w' := by
  obtain ⟨kd, u, k, b, fs, zl, p⟩ := o
  by_cases h0 : kd = 0
  · subst h0; exact do_fetch c u k b fs zl p hok hi hfi hop hN hM
  by_cases h1 : kd = 1
  · subst h1; exact do_unpin c u k b fs zl p hok hi hfi hop hN hM
  by_cases h2 : kd = 2
  · subst h2; exact do_put c u k b fs zl p hok hi hfi hop hN hM
  by_cases h3 : kd = 3
  · subst h3; exact do_write c u k b fs zl p hok hi hfi hop hN hM
  by_cases h4 : kd = 4
  · subst h4; exact do_cold c u k b fs zl p hok hi hfi hop hN hM
  by_cases h5 : kd = 5
  · subst h5; exact do_more c u k b fs zl p hok hi hfi hop hN hM
  by_cases h6 : kd = 6
  · subst h6; exact do_plan c u k b fs zl p hok hi hfi hop hN hM
  exact do_other c u k b fs zl p kd h0 h1 h2 h3 h4 h5 h6 hok hi hfi hop hN hM
end Go.Proofs.Ytehogiondcpbcaa
