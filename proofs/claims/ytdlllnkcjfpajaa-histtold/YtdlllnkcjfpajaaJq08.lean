/-
  Proved here: what a read leads to.
-/
import Derived.Test.YtdlllnkcjfpajaaJq07
namespace Go.Proofs.Ytdlllnkcjfpajaa
open Go.ChangeShapes Go.WideShapes Go.ChangeAt Go.RowKit
set_option linter.unusedVariables false
set_option linter.unusedSimpArgs false
set_option maxRecDepth 20000
theorem size46 : (Try.prog.info? 46).map (·.size) = some 2 := Sn.size46
def SMp (w : World) (m n : Nat) (D : Int × Int → Prop) : Prop := ∃ f, KMap E105 w m n f ∧ ∀ s, (D s → f s = some (.agg #[])) ∧ (¬ D s → f s = none)
theorem SMp.below {w w' : World} {m n : Nat} {D : Int × Int → Prop} (h : SMp w m n D) (hb : Below w.heap.size w w') : SMp w' m n D := by
  obtain ⟨f, h1, h2⟩ := h; exact ⟨f, h1.below hb, h2⟩
theorem SMp.off {F : Nat → Prop} {w w' : World} {m n : Nat} {D : Int × Int → Prop} (h : SMp w m n D) (ho : Off F w w') (hF : ¬ F m) : SMp w' m n D := by
  obtain ⟨f, h1, h2⟩ := h; exact ⟨f, h1.off ho hF, h2⟩
theorem SMp.mono {w : World} {m n k : Nat} {D : Int × Int → Prop} (h : SMp w m n D) (hk : n ≤ k) : SMp w m k D := by
  obtain ⟨f, h1, h2⟩ := h; exact ⟨f, h1.mono hk, h2⟩
theorem SMp.congr {w : World} {m n : Nat} {D D' : Int × Int → Prop} (h : SMp w m n D) (e : ∀ s, D s ↔ D' s) : SMp w m n D' := by
  obtain ⟨f, h1, h2⟩ := h; exact ⟨f, h1, fun s => by rw [← e s]; exact h2 s⟩
theorem SMp.is {w : World} {m n : Nat} {D : Int × Int → Prop} (h : SMp w m n D) : ∃ es cl, w.heap[m]? = some (.map es cl) := by
  obtain ⟨f, h1, h2⟩ := h; exact h1.is
theorem SMp.made (w : World) : SMp (w.alloc (.map #[] 0)) w.heap.size 0 (fun _ => False) := ⟨_, KMap.made E105 w, fun s => ⟨fun q => q.elim, fun _ => rfl⟩⟩
theorem stepok_of {i j : Nat} (hi : i < 1000000) (hj : j < 1000000) : stepok ((i : Int), (j : Int)) := ⟨WalkArith.wf_i64 (by simp; omega), WalkArith.wf_i64 (by simp; omega)⟩
theorem SMp.put {w : World} {m n : Nat} {D : Int × Int → Prop} (h : SMp w m n D) (hn : n < maxLen) (a b : Nat) (hab : stepok ((a : Int), (b : Int))) :
    Calls Try.prog 45 #[.map (some m), .int .i64 a, .int .i64 b] w fun e w' => e = .returned (.tuple #[]) ∧ SMp w' m (n + 1) (fun s => D s ∨ (a ≠ b ∧ s = ((a : Int), (b : Int)))) ∧ Off (· = m) w w' := by
  obtain ⟨f, h1, h2⟩ := h
  refine (put_any h1 hn hab).mono ?_
  rintro e w' ⟨rfl, q1, q2⟩
  refine ⟨rfl, ⟨_, q1, fun s => ?_⟩, q2⟩
  unfold sput
  by_cases e : (a : Int) = (b : Int)
  · rw [if_pos e]
    have e' : a = b := by omega
    have : (D s ∨ (a ≠ b ∧ s = ((a : Int), (b : Int)))) ↔ D s := ⟨fun q => q.elim id (fun q => absurd e' q.1), Or.inl⟩
    show ((D s ∨ (a ≠ b ∧ s = ((a : Int), (b : Int)))) → _) ∧ (¬ (D s ∨ (a ≠ b ∧ s = ((a : Int), (b : Int)))) → _)
    rw [this]; exact h2 s
  · rw [if_neg e]
    have e' : a ≠ b := fun q => e (by rw [q])
    unfold kput
    by_cases es : s = ((a : Int), (b : Int))
    · rw [if_pos es]; exact ⟨fun _ => rfl, fun q => absurd (Or.inr ⟨e', es⟩) q⟩
    · rw [if_neg es]
      have : (D s ∨ (a ≠ b ∧ s = ((a : Int), (b : Int)))) ↔ D s := ⟨fun q => q.elim id (fun q => absurd q.2 es), Or.inl⟩
      show ((D s ∨ (a ≠ b ∧ s = ((a : Int), (b : Int)))) → _) ∧ (¬ (D s ∨ (a ≠ b ∧ s = ((a : Int), (b : Int)))) → _)
      rw [this]; exact h2 s
theorem NxI.lt {hs : List Hm} {v : Int × Int} {j : Nat} (h : NxI hs v j) : j < hs.length := by
  obtain ⟨t, h1, _⟩ := h; exact h1.lt
def RdD (hs : List Hm) (i : Nat) (v s : Int × Int) : Prop := ∃ j : Nat, WrI hs j v ∧ j ≠ i ∧ s = ((j : Int), (i : Int))
def RdP (hs : List Hm) (i : Nat) (v s : Int × Int) : Prop := ((∃ j, WrI hs j v) ∨ v.2 = 0) ∧ ∃ k : Nat, NxI hs v k ∧ k ≠ i ∧ s = ((k : Int), (i : Int))
theorem NxI.one {hs : List Hm} (hu : Uni hs) {v : Int × Int} {j k : Nat} (h : NxI hs v j) (h' : NxI hs v k) : j = k := by
  obtain ⟨t, a1, a2, a3⟩ := h
  obtain ⟨t', b1, b2, b3⟩ := h'
  have e1 := a3 _ _ b1 b2
  have e2 := b3 _ _ a1 a2
  have e : t = t' := by omega
  subst e
  exact hu _ _ _ a1 b1
theorem RdD.one {hs : List Hm} (hu : Uni hs) {i jj : Nat} {v s : Int × Int} (hj : WrI hs jj v) : RdD hs i v s ↔ (jj ≠ i ∧ s = ((jj : Int), (i : Int))) :=
  ⟨fun ⟨j, q1, q2, q3⟩ => by obtain rfl := hu _ _ _ q1 hj; exact ⟨q2, q3⟩, fun ⟨q2, q3⟩ => ⟨jj, hj, q2, q3⟩⟩
theorem RdP.one {hs : List Hm} (hu : Uni hs) {i kk : Nat} {v s : Int × Int} (hc : (∃ j, WrI hs j v) ∨ v.2 = 0) (hk : NxI hs v kk) : RdP hs i v s ↔ (kk ≠ i ∧ s = ((kk : Int), (i : Int))) :=
  ⟨fun ⟨_, k, q1, q2, q3⟩ => by obtain rfl := NxI.one hu q1 hk; exact ⟨q2, q3⟩, fun ⟨q2, q3⟩ => ⟨hc, kk, hk, q2, q3⟩⟩
theorem RdP.none1 {hs : List Hm} {i : Nat} {v s : Int × Int} (hk : ∀ k, ¬ NxI hs v k) : ¬ RdP hs i v s := fun ⟨_, k, q, _⟩ => hk k q
theorem RdP.none2 {hs : List Hm} {i : Nat} {v s : Int × Int} (h1 : ∀ j, ¬ WrI hs j v) (h2 : v.2 ≠ 0) : ¬ RdP hs i v s := fun ⟨q, _⟩ => q.elim (fun ⟨j, q⟩ => h1 j q) h2
def Rread (w : World) (hs : List Hm) (md mp nd np i : Nat) (v : Int × Int) (D P : Int × Int → Prop) (w' : World) : Prop :=
  SMp w' md (nd + 1) (fun s => D s ∨ RdD hs i v s) ∧ SMp w' mp (np + 1) (fun s => P s ∨ RdP hs i v s) ∧ Off (two md mp) w w'
theorem rowv {w : World} {X : Nat} {v : Int × Int} (h : Row w X #[.int .u16 v.1, .int .u32 v.2] 46) : ∀ j u, ([.int .u16 v.1, .int .u32 v.2] : List Value)[j]? = some u → w.cell? ((⟨X, 0, none⟩ : Addr).add j) = some u := fun j u hj => by
  rw [Addr.add_mid, Nat.zero_add, cell_of_row _ _ _ _ _ _ h, ← hj]
  show [Value.int .u16 v.1, .int .u32 v.2].toArray[j]? = _
  rw [List.getElem?_toArray]
set_option maxHeartbeats 4000000 in
theorem findRead_any {w : World} {g mw mc md mp : Nat} {lv : Value} {hs : List Hm} {f : Int × Int → Option Value} {nw nc : Nat} {F : Int → Option Value} {G : Int → List Int} (h : HAt w g mw mc md mp lv hs f nw nc F G) {nd np : Nat} {D P : Int × Int → Prop} (hd : SMp w md nd D) (hp : SMp w mp np P) (hn : nd < 1000000000) (hn' : np < 1000000000) (h1 : md ≠ mp) (h2 : md ≠ mw) (h3 : md ≠ mc) (h4 : mp ≠ mw) (h5 : mp ≠ mc) (i : Nat) (hi : i < 1000000) (v : Int × Int) (hv : seenok v) :
    Calls Try.prog 46 #[.pointer (some ⟨g, 0, none⟩), .int .i64 i, .agg #[.int .u16 v.1, .int .u32 v.2]] w fun e w' => e = .returned (.tuple #[]) ∧ Rread w hs md mp nd np i v D P w' := by
  have HFEW : Hid _ := h.few
  have HI : Hid _ := hi
  have HN0 : Hid (nd < maxLen) := by show _ < _; unfold maxLen; omega
  have HN1 : Hid (np < maxLen) := by show _ < _; unfold maxLen; omega
  have HDP : Hid (¬ md = mp) := h1
  have HUNI : Hid _ := h.uni
  have HNXT : Hid (∀ w2 e w', Next hs v w2 e w' → ∃ (j : Int) (b : Bool), e = .returned (.tuple #[.int .i64 j, .bool b]) ∧ Below w2.heap.size w2 w' ∧ (b = true → ∃ k : Nat, j = k ∧ NxI hs v k) ∧ (b = false → ∀ k, ¬ NxI hs v k)) := fun _ _ _ h => h
  have b1 : Below w.heap.size w (w.alloc (.cells #[.int .u16 v.1, .int .u32 v.2] 46)) := (Below.refl _ _).alloc (Nat.le_refl _) _
  have rX : Row (w.alloc (.cells #[.int .u16 v.1, .int .u32 v.2] 46)) w.heap.size #[.int .u16 v.1, .int .u32 v.2] 46 := Row.new _ _ _
  have h1' : Hid _ := h.below b1
  have D1 : Hid (SMp _ md nd D) := hd.below b1
  have P1 : Hid (SMp _ mp np P) := hp.below b1
  have HB1 : Hid _ := b1
  have HV : Hid _ := hv
  have HNE : Hid (¬ mw = md ∧ ¬ mc = md ∧ ¬ mw = mp ∧ ¬ mc = mp) := ⟨fun e => h2 e.symm, fun e => h3 e.symm, fun e => h4 e.symm, fun e => h5 e.symm⟩
  have HGM : Hid (∀ w', SMp w' md nd D → ∀ b, b = md → ∃ es cl, w'.heap[b]? = some (.map es cl)) := fun w' q b e => by rw [e]; exact q.is
  clear h hd hp b1 h1 h2 h3 h4 h5 hn hn' hv hi
  generalize hX : w.heap.size = X at rX
  have hX' : Hid (w.heap.size = X) := hX
  have HJ : (∃ j, WrI hs j v) ∨ (∀ j, ¬ WrI hs j v) := by
    by_cases q : ∃ j, WrI hs j v
    · exact Or.inl q
    · exact Or.inr (fun j hj => q ⟨j, hj⟩)
  rcases HJ with ⟨jj, hjj⟩ | hno
  · have HJJ : Hid _ := hjj
    have HLK : Hid (∀ w', KMap E46 w' mw nw f → (Instr.lookup 92 (.map (some mw)) (.agg #[.int .u16 v.1, .int .u32 v.2]) true).run Try.prog w' = .ok (.tuple #[.int .i64 (jj : Int), .bool true]) w') := fun w' hm => by
      have q := KMap.look_ok Try.underlying92 (zero3 w') hm HV.out
      rw [(h1'.out.fn _ _).2 ⟨jj, rfl, hjj⟩] at q
      exact q
    clear hjj
    go_enter Try.func46, Try.ntmps46
    go_upto_region 1 with fail
    clear hX
    generalize w.alloc (.cells #[.int .u16 v.1, .int .u32 v.2] 46) = w1 at rX h1' D1 P1 HB1 ⊢
    have h1 := h1'.out
    refine wp_region_held_drew (S := fun w' => Row w' g #[lv, .map (some mw), .map (some mc), .map (some md), .map (some mp)] 96 ∧ Row w' X #[.int .u16 v.1, .int .u32 v.2] 46 ∧ KMap E46 w' mw nw f) (by kernel_rfl) ⟨h1.row, rX, h1.wr⟩ fun hS => ?_
    refine tkH (i := 0) (v := .pointer (some ⟨g, 0, none⟩)) rfl (by kernel_rfl) (fun _ _ _ h => h) (Or.inl ⟨by rfl, fun w _ => by go_simp⟩) hS ?_
    try simp only [Act.put, nz0, nz1, nz2, nz3, nz4, nz5]
    refine tkH (i := 1) (v := .pointer (some ⟨g, 0, none⟩)) rfl (by kernel_rfl) (fun _ _ _ h => h) (Or.inl ⟨by rfl, fun w _ => by go_simp⟩) hS ?_
    try simp only [Act.put, nz0, nz1, nz2, nz3, nz4, nz5]
    refine tkH (i := 2) (v := .pointer (some ⟨g, 1, none⟩)) rfl (by kernel_rfl) (fun _ _ _ h => h) (Or.inl ⟨by rfl, fun w _ => by go_simp⟩) hS ?_
    try simp only [Act.put, nz0, nz1, nz2, nz3, nz4, nz5]
    refine tkH (i := 3) (v := .map (some mw)) rfl (by kernel_rfl) (fun _ _ _ h => h) (Or.inl ⟨by rfl, fun w h => by have c := row_at h.1 1 _ rfl; go_simp⟩) hS ?_
    try simp only [Act.put, nz0, nz1, nz2, nz3, nz4, nz5]
    refine tkH (i := 4) (v := .agg #[.int .u16 v.1, .int .u32 v.2]) rfl (by kernel_rfl) (fun _ _ _ h => h) (yields_cells (by rfl) 46 (.tmp 5) rfl X rfl 46 #[.int .u16 v.1, .int .u32 v.2] (fun w h => h.2.1) 2 Try.underlying46 rfl size46 rfl) hS ?_
    try simp only [Act.put, nz0, nz1, nz2, nz3, nz4, nz5]
    refine tkH (i := 5) (v := .tuple #[.int .i64 (jj : Int), .bool true]) rfl (by kernel_rfl) (fun _ _ _ h => h) (yields_lookup (by rfl) 92 (.tmp 14) (.tmp 15) true rfl _ _ _ rfl rfl (fun w h => HLK.out w h.2.2)) hS ?_
    try simp only [Act.put, nz0, nz1, nz2, nz3, nz4, nz5]
    refine tkH (i := 6) (v := .tuple #[.int .i64 (jj : Int), .bool true]) rfl (by kernel_rfl) (fun _ _ _ h => h) (Or.inl ⟨by rfl, fun w _ => by go_simp⟩) hS ?_
    try simp only [Act.put, nz0, nz1, nz2, nz3, nz4, nz5]
    refine tkH (i := 7) (v := .int .i64 (jj : Int)) rfl (by kernel_rfl) (fun _ _ _ h => h) (Or.inl ⟨by rfl, fun w _ => by go_simp⟩) hS ?_
    try simp only [Act.put, nz0, nz1, nz2, nz3, nz4, nz5]
    refine tkH (i := 8) (v := .bool true) rfl (by kernel_rfl) (fun _ _ _ h => h) (Or.inl ⟨by rfl, fun w _ => by go_simp⟩) hS ?_
    try simp only [Act.put, nz0, nz1, nz2, nz3, nz4, nz5]
    refine tkH (i := 9) (v := .int .i64 (jj : Int)) rfl (by kernel_rfl) (fun _ _ _ h => h) (Or.inl ⟨by rfl, fun w _ => by go_simp⟩) hS ?_
    try simp only [Act.put, nz0, nz1, nz2, nz3, nz4, nz5]
    refine tkH (i := 10) (v := .bool true) rfl (by kernel_rfl) (fun _ _ _ h => h) (Or.inl ⟨by rfl, fun w _ => by go_simp⟩) hS ?_
    try simp only [Act.put, nz0, nz1, nz2, nz3, nz4, nz5]
    refine wpAnyH_done (by kernel_rfl) ?_ _
    have hd1 : SMp w1.drew md nd D := D1.out
    have hp1 : Hid (SMp w1.drew mp np P) := P1.out
    have hh1 : Hid (HAt w1.drew g mw mc md mp lv hs f nw nc F G) := h1.below (Below.refl _ _).drew
    have rX1 : Row w1.drew X #[.int .u16 v.1, .int .u32 v.2] 46 := rX
    have hb1 : Hid (Below w.heap.size w w1.drew) := HB1.out.drew
    clear h1 rX hS D1 P1 h1' HB1
    generalize w1.drew = w2 at hd1 hp1 hh1 rX1 hb1 ⊢
    have m3 : w2.cell? ⟨g, 3, none⟩ = some (.map (some md)) := row_at hh1.out.row 3 _ rfl
    have hput := SMp.put hd1 HN0.out jj i (stepok_of (by have := WrI.lt HJJ.out; have := HFEW.out; omega) HI.out)
    have HMB := HGM.out w2 hd1
    have HM2 : Hid _ := HMB
    clear hd1 HMB
    go_upto_region 4 with (go_at_call 45; refine hput.mono ?_; clear hput; rintro e w4 ⟨he, q4, o4⟩; obtain rfl := he)
    have h2 := hh1.out.maps o4 HM2.out HNE.out.1 HNE.out.2.1
    have D2 : SMp w4 md (nd + 1) (fun s => D s ∨ RdD hs i v s) := q4.congr (fun s => by rw [RdD.one HUNI.out HJJ.out])
    have P2 : SMp w4 mp np P := SMp.off hp1.out o4 (fun e => HDP.out e.symm)
    have O2 : Off (two md mp) w w4 := (Off.of_below (F := two md mp) hb1.out).trans o4 (fun j e => Or.inl (Or.inl e))
    have rX2 : Row w4 X #[.int .u16 v.1, .int .u32 v.2] 46 := rX1.off o4 (fun e => by obtain ⟨es, cl, hb⟩ := HM2.out X e; unfold Row at rX1; rw [rX1] at hb; cases hb)
    have hnx := next_any h2 v HV.out
    clear hh1 hp1 q4 o4 rX1 m3 hb1
    go_upto_region 6 with (first
      | (refine wpList_load_any rfl 46 (.tmp 5) rfl ⟨X, 0, none⟩ rfl [.int .u16 v.1, .int .u32 v.2] _ (rowv rX2) Try.underlying46 rfl Sn.size46 ?_)
      | (go_at_call 44; refine hnx.mono ?_; clear hnx; intro e w3 hq; obtain ⟨k, B, he, hb3, hk1, hk0⟩ := HNXT.out _ _ _ hq; obtain rfl := he; clear hq))
    have h3 := h2.below hb3
    have d3 := SMp.below D2 hb3
    have p3 := SMp.below P2 hb3
    have o3 := O2.trans (Off.of_below (F := fun _ => False) hb3) (fun j q => q.elim)
    have m4 : w3.cell? ⟨g, 4, none⟩ = some (.map (some mp)) := row_at h3.row 4 _ rfl
    have HD3 : Hid _ := d3
    have HK0 : Hid _ := hk0
    clear h2 D2 P2 O2 rX2 hb3 h3 d3 hk0
    cases B
    · have hfin : Rread w hs md mp nd np i v D P w3 := ⟨HD3.out, (SMp.mono p3 (Nat.le_succ _)).congr (fun s => ⟨Or.inl, fun q => q.elim id (fun q => absurd q (RdP.none1 (HK0.out rfl)))⟩), o3⟩
      clear p3 o3 hk1
      go_wp2
      go_end0
      exact ⟨rfl, hfin⟩
    · obtain ⟨kk, rfl, hkk⟩ := hk1 rfl
      have hput := SMp.put p3 HN1.out kk i (stepok_of (by have := NxI.lt hkk; have := HFEW.out; omega) HI.out)
      have HKK : Hid _ := hkk
      clear p3 hkk
      go_wp2_with (go_at_call 45; refine hput.mono ?_; clear hput; rintro e w4 ⟨he, p4, o4⟩; obtain rfl := he)
      have hfin : Rread w hs md mp nd np i v D P w4 := ⟨SMp.off HD3.out o4 HDP.out, p4.congr (fun s => by rw [RdP.one HUNI.out (Or.inl ⟨jj, HJJ.out⟩) HKK.out]), o3.trans o4 (fun j q => Or.inl (Or.inr q))⟩
      go_end0
      exact ⟨rfl, hfin⟩
  · have HNO : Hid _ := hno
    have HLK : Hid (∀ w', KMap E46 w' mw nw f → (Instr.lookup 92 (.map (some mw)) (.agg #[.int .u16 v.1, .int .u32 v.2]) true).run Try.prog w' = .ok (.tuple #[.int .i64 0, .bool false]) w') := fun w' hm => by
      have q := KMap.look_ok Try.underlying92 (zero3 w') hm HV.out
      have e : f v = none := by
        cases hf : f v with
        | none => rfl
        | some x => obtain ⟨j, _, hj⟩ := (h1'.out.fn _ _).1 hf; exact absurd hj (hno j)
      rw [e] at q
      exact q
    clear hno
    go_enter Try.func46, Try.ntmps46
    go_upto_region 1 with fail
    clear hX
    generalize w.alloc (.cells #[.int .u16 v.1, .int .u32 v.2] 46) = w1 at rX h1' D1 P1 HB1 ⊢
    have h1 := h1'.out
    refine wp_region_held_drew (S := fun w' => Row w' g #[lv, .map (some mw), .map (some mc), .map (some md), .map (some mp)] 96 ∧ Row w' X #[.int .u16 v.1, .int .u32 v.2] 46 ∧ KMap E46 w' mw nw f) (by kernel_rfl) ⟨h1.row, rX, h1.wr⟩ fun hS => ?_
    refine tkH (i := 0) (v := .pointer (some ⟨g, 0, none⟩)) rfl (by kernel_rfl) (fun _ _ _ h => h) (Or.inl ⟨by rfl, fun w _ => by go_simp⟩) hS ?_
    try simp only [Act.put, nz0, nz1, nz2, nz3, nz4, nz5]
    refine tkH (i := 1) (v := .pointer (some ⟨g, 0, none⟩)) rfl (by kernel_rfl) (fun _ _ _ h => h) (Or.inl ⟨by rfl, fun w _ => by go_simp⟩) hS ?_
    try simp only [Act.put, nz0, nz1, nz2, nz3, nz4, nz5]
    refine tkH (i := 2) (v := .pointer (some ⟨g, 1, none⟩)) rfl (by kernel_rfl) (fun _ _ _ h => h) (Or.inl ⟨by rfl, fun w _ => by go_simp⟩) hS ?_
    try simp only [Act.put, nz0, nz1, nz2, nz3, nz4, nz5]
    refine tkH (i := 3) (v := .map (some mw)) rfl (by kernel_rfl) (fun _ _ _ h => h) (Or.inl ⟨by rfl, fun w h => by have c := row_at h.1 1 _ rfl; go_simp⟩) hS ?_
    try simp only [Act.put, nz0, nz1, nz2, nz3, nz4, nz5]
    refine tkH (i := 4) (v := .agg #[.int .u16 v.1, .int .u32 v.2]) rfl (by kernel_rfl) (fun _ _ _ h => h) (yields_cells (by rfl) 46 (.tmp 5) rfl X rfl 46 #[.int .u16 v.1, .int .u32 v.2] (fun w h => h.2.1) 2 Try.underlying46 rfl size46 rfl) hS ?_
    try simp only [Act.put, nz0, nz1, nz2, nz3, nz4, nz5]
    refine tkH (i := 5) (v := .tuple #[.int .i64 0, .bool false]) rfl (by kernel_rfl) (fun _ _ _ h => h) (yields_lookup (by rfl) 92 (.tmp 14) (.tmp 15) true rfl _ _ _ rfl rfl (fun w h => HLK.out w h.2.2)) hS ?_
    try simp only [Act.put, nz0, nz1, nz2, nz3, nz4, nz5]
    refine tkH (i := 6) (v := .tuple #[.int .i64 0, .bool false]) rfl (by kernel_rfl) (fun _ _ _ h => h) (Or.inl ⟨by rfl, fun w _ => by go_simp⟩) hS ?_
    try simp only [Act.put, nz0, nz1, nz2, nz3, nz4, nz5]
    refine tkH (i := 7) (v := .int .i64 0) rfl (by kernel_rfl) (fun _ _ _ h => h) (Or.inl ⟨by rfl, fun w _ => by go_simp⟩) hS ?_
    try simp only [Act.put, nz0, nz1, nz2, nz3, nz4, nz5]
    refine tkH (i := 8) (v := .bool false) rfl (by kernel_rfl) (fun _ _ _ h => h) (Or.inl ⟨by rfl, fun w _ => by go_simp⟩) hS ?_
    try simp only [Act.put, nz0, nz1, nz2, nz3, nz4, nz5]
    refine tkH (i := 9) (v := .int .i64 0) rfl (by kernel_rfl) (fun _ _ _ h => h) (Or.inl ⟨by rfl, fun w _ => by go_simp⟩) hS ?_
    try simp only [Act.put, nz0, nz1, nz2, nz3, nz4, nz5]
    refine tkH (i := 10) (v := .bool false) rfl (by kernel_rfl) (fun _ _ _ h => h) (Or.inl ⟨by rfl, fun w _ => by go_simp⟩) hS ?_
    try simp only [Act.put, nz0, nz1, nz2, nz3, nz4, nz5]
    refine wpAnyH_done (by kernel_rfl) ?_ _
    have hd1 : Hid (SMp w1.drew md nd D) := D1.out
    have P2 : SMp w1.drew mp np P := P1.out
    have h2 : HAt w1.drew g mw mc md mp lv hs f nw nc F G := h1.below (Below.refl _ _).drew
    have rX2 : Row w1.drew X #[.int .u16 v.1, .int .u32 v.2] 46 := rX
    have O2 : Off (two md mp) w w1.drew := Off.of_below HB1.out.drew
    clear h1 rX hS D1 P1 h1' HB1
    generalize w1.drew = w2 at hd1 P2 h2 rX2 O2 ⊢
    have D2 : SMp w2 md (nd + 1) (fun s => D s ∨ RdD hs i v s) := (SMp.mono hd1.out (Nat.le_succ _)).congr (fun s => ⟨Or.inl, fun q => q.elim id (fun ⟨j, q, _⟩ => absurd q (HNO.out j))⟩)
    have f1 : w2.cell? ⟨X, 1, none⟩ = some (.int .u32 v.2) := row_at rX2 1 _ rfl
    clear hd1
    by_cases hz : v.2 = 0
    · have HZ : Hid _ := hz
      have hnx := next_any h2 v HV.out
      have zb : (v.2 != 0) = false := by simp [hz]
      clear hz
      go_upto_region 6 with (first
        | (refine wpList_load_any rfl 46 (.tmp 5) rfl ⟨X, 0, none⟩ rfl [.int .u16 v.1, .int .u32 v.2] _ (rowv rX2) Try.underlying46 rfl Sn.size46 ?_)
        | (go_at_call 44; refine hnx.mono ?_; clear hnx; intro e w3 hq; obtain ⟨k, B, he, hb3, hk1, hk0⟩ := HNXT.out _ _ _ hq; obtain rfl := he; clear hq))
      have h3 := h2.below hb3
      have d3 := SMp.below D2 hb3
      have p3 := SMp.below P2 hb3
      have o3 := O2.trans (Off.of_below (F := fun _ => False) hb3) (fun j q => q.elim)
      have m4 : w3.cell? ⟨g, 4, none⟩ = some (.map (some mp)) := row_at h3.row 4 _ rfl
      have HD3 : Hid _ := d3
      have HK0 : Hid _ := hk0
      clear h2 D2 P2 O2 rX2 hb3 h3 d3 hk0
      cases B
      · have hfin : Rread w hs md mp nd np i v D P w3 := ⟨HD3.out, (SMp.mono p3 (Nat.le_succ _)).congr (fun s => ⟨Or.inl, fun q => q.elim id (fun q => absurd q (RdP.none1 (HK0.out rfl)))⟩), o3⟩
        clear p3 o3 hk1
        go_wp2
        go_end0
        exact ⟨rfl, hfin⟩
      · obtain ⟨kk, rfl, hkk⟩ := hk1 rfl
        have hput := SMp.put p3 HN1.out kk i (stepok_of (by have := NxI.lt hkk; have := HFEW.out; omega) HI.out)
        have HKK : Hid _ := hkk
        clear p3 hkk
        go_wp2_with (go_at_call 45; refine hput.mono ?_; clear hput; rintro e w4 ⟨he, p4, o4⟩; obtain rfl := he)
        have hfin : Rread w hs md mp nd np i v D P w4 := ⟨SMp.off HD3.out o4 HDP.out, p4.congr (fun s => by rw [RdP.one HUNI.out (Or.inr HZ.out) HKK.out]), o3.trans o4 (fun j q => Or.inl (Or.inr q))⟩
        go_end0
        exact ⟨rfl, hfin⟩
    · have zb : (v.2 != 0) = true := by simp [hz]
      have hfin : Rread w hs md mp nd np i v D P w2 := ⟨D2, (SMp.mono P2 (Nat.le_succ _)).congr (fun s => ⟨Or.inl, fun q => q.elim id (fun q => absurd q (RdP.none2 HNO.out hz))⟩), O2⟩
      clear D2 P2 O2 h2 rX2 hz
      go_wp2
      refine bodyPost_ret (results_none rfl _ _ _) rfl ?_
      exact ⟨rfl, hfin⟩
end Go.Proofs.Ytdlllnkcjfpajaa
