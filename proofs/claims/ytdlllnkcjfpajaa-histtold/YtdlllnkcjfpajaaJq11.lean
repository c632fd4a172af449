/-
  Proved here: aborted. Proved here: interfering. Structs as values: their cells, lists of them in slices, copies of them.
-/
import Derived.Test.YtdlllnkcjfpajaaJq10
import Derived.Test.YtdlllnkcjfpajaaJq00
import Derived.Laws.AppendOwnNone
import Derived.Maps.AppendAt
import Derived.Deep.MidRow
import Derived.Deep.CutBlock
import Derived.Great.BuildSlice
import Derived.Laws.Cover3
namespace Go.Proofs.Ytdlllnkcjfpajaa
open Go.ChangeShapes Go.WideShapes Go.ChangeAt Go.RowKit
set_option linter.unusedVariables false
set_option linter.unusedSimpArgs false
set_option maxRecDepth 20000
def AbR (hs : List Hm) (_ : Nat) (v : Int × Int) : Prop := v.2 ≠ 0 ∧ ∀ j, ¬ WrI hs j v
def AbI (hs : List Hm) : Prop := ∃ i h v, hs[i]? = some h ∧ v ∈ h.p.rs ∧ AbR hs i v
def Says (w : World) (P : Prop) (e : Ending) (w' : World) : Prop := ∃ b : Bool, e = .returned (.bool b) ∧ (b = true ↔ P) ∧ Below w.heap.size w w'
set_option maxHeartbeats 4000000 in
theorem aborted_any {w : World} {g mw mc md mp : Nat} {lv : Value} {hs : List Hm} {f : Int × Int → Option Value} {nw nc : Nat} {F : Int → Option Value} {G : Int → List Int} (h : HAt w g mw mc md mp lv hs f nw nc F G) :
    Calls Try.prog 21 #[.pointer (some ⟨g, 0, none⟩)] w fun e w' => Says w (AbI hs) e w' := by
  have hz39 := Pa.zero39
  obtain ⟨oa2, cap2, hlv, hcs2⟩ := h.list.hold
  clear hcs2
  subst hlv
  have H12 : Hid _ := h.few
  have HFN : Hid _ := h.fn
  have HYES : Hid (AbI hs → ∀ w', Below w.heap.size w w' → Says w (AbI hs) (.returned (.bool true)) w') := fun q w' hb => ⟨true, rfl, ⟨fun _ => q, fun _ => rfl⟩, hb⟩
  have HNOT : Hid (¬ AbI hs → ∀ w', Below w.heap.size w w' → Says w (AbI hs) (.returned (.bool false)) w') := fun q w' hb => ⟨false, rfl, ⟨(fun q => by cases q), fun q' => absurd q' q⟩, hb⟩
  generalize Says w (AbI hs) = PP at HYES HNOT ⊢
  obtain ⟨n2, HN2⟩ : ∃ n2, Hid (hs.length = n2) := ⟨_, rfl⟩
  have H122 : n2 ≤ 12 := by rw [← HN2.out]; exact H12.out
  rw [HN2.out] at h
  have c0 : w.cell? ⟨g, 0, none⟩ = some (.slice oa2 n2 cap2) := row_at h.row 0 _ rfl
  go_enter Try.func21, Try.ntmps21
  go_upto_region 2 with fail
  clear c0
  go_loopw [14] (fun i wr => ∃ (k : Nat), k ≤ n2 ∧ i = .int .i64 k ∧ HAt wr g mw mc md mp (.slice oa2 n2 cap2) hs f nw nc F G ∧ ¬ UpR hs (AbR hs) k 0 ∧ Below w.heap.size w wr) (fun i _ => n2 - (intOf i).toNat)
  case atStart => exact ⟨0, by omega, rfl, h, UpR.zero, Below.refl _ _⟩
  case round =>
    clear h
    obtain ⟨i, hi, rfl, hA, M3, Bw⟩ := hrel
    by_cases hin : i < n2
    · have hin' : (i : Int) < (n2 : Int) := by omega
      obtain ⟨oa3, cap3, hlv, hcs3⟩ := hA.list.hold
      injection hlv with e1 e2 e3
      subst e1
      obtain ⟨a, x, rfl, he, hcw⟩ := hcs3 i (by rw [HN2.out]; exact hin)
      have h1 := hA.list.each x (List.mem_of_getElem? he)
      have hfit := hA.list.fit x (List.mem_of_getElem? he)
      clear hcs3 e2 e3
      obtain ⟨P, ⟨ra, rn, rc⟩, ⟨wa, wn, wc⟩⟩ := x
      have hrn : rn = P.rs.length := h1.rn
      have hfl := hfit.rl
      have HOK : Hid (∀ v ∈ P.rs, seenok v) := fun v hv => ⟨WalkArith.wf_u16 (hfit.rs v hv).1, WalkArith.wf_u32 (hfit.rs v hv).2⟩
      have HRN : Hid _ := hrn
      have HE : Hid _ := he
      have hrl : rn ≤ 1000 := by rw [hrn]; exact hfl
      have tl : Hid (1 = 1) := rfl
      have q1 : Row (wr.alloc (.cells Pa.O.zero.arr 39)) wr.heap.size Pa.O.zero.arr 39 := Row.new _ _ _
      obtain ⟨k1, k2⟩ := copied wr (⟨P.st, P.co, P.dn, ⟨ra, rn, rc⟩, ⟨wa, wn, wc⟩⟩ : Pa.O)
      clear hrn hfl hfit he
      go_upto_region 4 with (first
        | (have hh := tl; clear hh tl; refine wpList_load_any rfl 39 (.tmp 16) rfl (a.add (i * 5)) rfl (Pa.O.cells ⟨P.st, P.co, P.dn, ⟨ra, rn, rc⟩, ⟨wa, wn, wc⟩⟩) _ hcw Try.underlying39 rfl Pa.size39 ?_)
        | (refine store_cells rfl 39 (.tmp 4) (.tmp 17) rfl wr.heap.size (Pa.O.arr ⟨P.st, P.co, P.dn, ⟨ra, rn, rc⟩, ⟨wa, wn, wc⟩⟩) rfl rfl 39 _ q1 5 Pa.size39 rfl rfl (Pa.O.arr_one _) ?_))
      clear q1 hcw
      have hA5 := hA.below k2
      have Bw5 := below_trans Bw k2
      have H15 : Held1 _ _ := h1.keep k2
      generalize (wr.alloc (.cells Pa.O.zero.arr 39)).setRow wr.heap.size (Pa.O.arr ⟨P.st, P.co, P.dn, ⟨ra, rn, rc⟩, ⟨wa, wn, wc⟩⟩) = w5 at k1 k2 hA5 Bw5 H15 ⊢
      have k1 : Row w5 wr.heap.size #[.int .u32 P.st, .int .u32 P.co, .bool P.dn, .slice ra rn rc, .slice wa wn wc] 39 := k1
      have f3 : w5.cell? ⟨wr.heap.size, 3, none⟩ = some (.slice ra rn rc) := row_at k1 3 _ rfl
      generalize wr.heap.size = X at k1 f3 ⊢
      clear hA Bw k2 h1
      go_upto_region 5 with fail
      clear f3
      have HRL2 : Hid (rn ≤ 1000) := hrl
      clear hrl
      go_loopw [21] (fun c wr => ∃ (k : Nat), k ≤ rn ∧ c = .int .i64 k ∧ HAt wr g mw mc md mp (.slice (some a) n2 cap2) hs f nw nc F G ∧ ¬ UpR hs (AbR hs) i k ∧ Below w.heap.size w wr ∧ Held1 wr ⟨P, ⟨ra, rn, rc⟩, ⟨wa, wn, wc⟩⟩) (fun c _ => rn - (intOf c).toNat)
      case atStart => exact ⟨0, by omega, rfl, hA5, M3, Bw5, H15⟩
      case round =>
        clear hA5 M3 Bw5 H15 k1
        obtain ⟨k, hk, rfl, hA, M3, Bw, h1⟩ := hrel
        by_cases hkn : k < rn
        · have hkn' : (k : Int) < (rn : Int) := by omega
          obtain ⟨b, v, rfl, hv, hvc⟩ := h1.rat k hkn
          have HV : Hid (P.rs[k]? = some v) := hv
          have HM : Hid (v ∈ P.rs) := List.mem_of_getElem? hv
          have HOV : Hid (seenok v) := HOK.out v (List.mem_of_getElem? hv)
          have hr1000 := HRL2.out
          clear hv
          go_upto_region 7 with (refine wpList_load_any rfl 46 (.tmp 23) rfl (b.add (k * 2)) rfl [.int .u16 v.1, .int .u32 v.2] _ hvc Try.underlying46 rfl Sn.size46 ?_)
          have rX : Row (wr.alloc (.cells #[.int .u16 v.1, .int .u32 v.2] 46)) wr.heap.size #[.int .u16 v.1, .int .u32 v.2] 46 := Row.new _ _ _
          have b3 : Below wr.heap.size wr (wr.alloc (.cells #[.int .u16 v.1, .int .u32 v.2] 46)) := (Below.refl _ _).alloc (Nat.le_refl _) _
          have hA3 := hA.below b3
          have Bw3 := below_trans Bw b3
          have h13 := h1.keep b3
          generalize wr.alloc (.cells #[.int .u16 v.1, .int .u32 v.2] 46) = w3 at rX hA3 Bw3 h13 ⊢
          generalize wr.heap.size = Y at rX ⊢
          clear b3 hA Bw h1 hvc
          have HM3 : Hid _ := M3
          clear M3
          by_cases hj : ∃ j, WrI hs j v
          · obtain ⟨jj, hjj⟩ := hj
            have HNX : Hid (¬ UpR hs (AbR hs) i (k + 1)) := fun q => by
              rcases (UpR.step HE.out HV.out).1 q with q | q
              · exact HM3.out q
              · exact q.2 jj hjj
            have HLK : Hid (∀ w', KMap E46 w' mw nw f → (Instr.lookup 92 (.map (some mw)) (.agg #[.int .u16 v.1, .int .u32 v.2]) true).run Try.prog w' = .ok (.tuple #[.int .i64 (jj : Int), .bool true]) w') := fun w' hm => by
              have q := KMap.look_ok Try.underlying92 (zero3 w') hm HOV.out
              rw [(HFN.out _ _).2 ⟨jj, rfl, hjj⟩] at q
              exact q
            clear hjj
            refine wp_region_held_drew (S := fun w' => Row w' g #[.slice (some a) n2 cap2, .map (some mw), .map (some mc), .map (some md), .map (some mp)] 96 ∧ Row w' Y #[.int .u16 v.1, .int .u32 v.2] 46 ∧ KMap E46 w' mw nw f) (by kernel_rfl) ⟨hA3.row, rX, hA3.wr⟩ fun hS => ?_
            refine tkH (i := 0) (v := .pointer (some ⟨g, 0, none⟩)) rfl (by kernel_rfl) (fun _ _ _ h => h) (Or.inl ⟨by rfl, fun w _ => by go_simp⟩) hS ?_
            try simp only [Act.put, nz0, nz1, nz2, nz3, nz4, nz5]
            refine tkH (i := 1) (v := .pointer (some ⟨g, 0, none⟩)) rfl (by kernel_rfl) (fun _ _ _ h => h) (Or.inl ⟨by rfl, fun w _ => by go_simp⟩) hS ?_
            try simp only [Act.put, nz0, nz1, nz2, nz3, nz4, nz5]
            refine tkH (i := 2) (v := .pointer (some ⟨g, 1, none⟩)) rfl (by kernel_rfl) (fun _ _ _ h => h) (Or.inl ⟨by rfl, fun w _ => by go_simp⟩) hS ?_
            try simp only [Act.put, nz0, nz1, nz2, nz3, nz4, nz5]
            refine tkH (i := 3) (v := .map (some mw)) rfl (by kernel_rfl) (fun _ _ _ h => h) (Or.inl ⟨by rfl, fun w h => by have c := row_at h.1 1 _ rfl; go_simp⟩) hS ?_
            try simp only [Act.put, nz0, nz1, nz2, nz3, nz4, nz5]
            refine tkH (i := 4) (v := .agg #[.int .u16 v.1, .int .u32 v.2]) rfl (by kernel_rfl) (fun _ _ _ h => h) (yields_cells (by rfl) 46 (.tmp 6) rfl Y rfl 46 #[.int .u16 v.1, .int .u32 v.2] (fun w h => h.2.1) 2 Try.underlying46 rfl size46 rfl) hS ?_
            try simp only [Act.put, nz0, nz1, nz2, nz3, nz4, nz5]
            refine tkH (i := 5) (v := .tuple #[.int .i64 (jj : Int), .bool true]) rfl (by kernel_rfl) (fun _ _ _ h => h) (yields_lookup (by rfl) 92 (.tmp 29) (.tmp 30) true rfl _ _ _ rfl rfl (fun w h => HLK.out w h.2.2)) hS ?_
            try simp only [Act.put, nz0, nz1, nz2, nz3, nz4, nz5]
            refine tkH (i := 6) (v := .tuple #[.int .i64 (jj : Int), .bool true]) rfl (by kernel_rfl) (fun _ _ _ h => h) (Or.inl ⟨by rfl, fun w _ => by go_simp⟩) hS ?_
            try simp only [Act.put, nz0, nz1, nz2, nz3, nz4, nz5]
            refine tkH (i := 7) (v := .int .i64 (jj : Int)) rfl (by kernel_rfl) (fun _ _ _ h => h) (Or.inl ⟨by rfl, fun w _ => by go_simp⟩) hS ?_
            try simp only [Act.put, nz0, nz1, nz2, nz3, nz4, nz5]
            refine tkH (i := 8) (v := .bool true) rfl (by kernel_rfl) (fun _ _ _ h => h) (Or.inl ⟨by rfl, fun w _ => by go_simp⟩) hS ?_
            try simp only [Act.put, nz0, nz1, nz2, nz3, nz4, nz5]
            refine tkH (i := 9) (v := .int .i64 (jj : Int)) rfl (by kernel_rfl) (fun _ _ _ h => h) (Or.inl ⟨by rfl, fun w _ => by go_simp⟩) hS ?_
            try simp only [Act.put, nz0, nz1, nz2, nz3, nz4, nz5]
            refine tkH (i := 10) (v := .bool true) rfl (by kernel_rfl) (fun _ _ _ h => h) (Or.inl ⟨by rfl, fun w _ => by go_simp⟩) hS ?_
            try simp only [Act.put, nz0, nz1, nz2, nz3, nz4, nz5]
            refine wpAnyH_done (by kernel_rfl) ?_ _
            have hA4 : HAt w3.drew g mw mc md mp (.slice (some a) n2 cap2) hs f nw nc F G := hA3.below (Below.refl _ _).drew
            have Bw4 := Bw3.drew
            have h14 : Held1 w3.drew _ := h13.keep (Below.refl _ _).drew
            clear hA3 Bw3 h13 hS
            go_wp2
            go_roundw
            case rel => exact ⟨k + 1, by omega, by go_num, hA4, HNX.out, Bw4, h14⟩
            case measure => simp [intOf]; omega
          · have hno : ∀ j, ¬ WrI hs j v := fun j hj' => hj ⟨j, hj'⟩
            have HLK : Hid (∀ w', KMap E46 w' mw nw f → (Instr.lookup 92 (.map (some mw)) (.agg #[.int .u16 v.1, .int .u32 v.2]) true).run Try.prog w' = .ok (.tuple #[.int .i64 0, .bool false]) w') := fun w' hm => by
              have q := KMap.look_ok Try.underlying92 (zero3 w') hm HOV.out
              have e : f v = none := by
                cases hf : f v with
                | none => rfl
                | some x => obtain ⟨j, _, hj⟩ := (HFN.out _ _).1 hf; exact absurd hj (hno j)
              rw [e] at q
              exact q
            have HNO : Hid _ := hno
            clear hno hj
            refine wp_region_held_drew (S := fun w' => Row w' g #[.slice (some a) n2 cap2, .map (some mw), .map (some mc), .map (some md), .map (some mp)] 96 ∧ Row w' Y #[.int .u16 v.1, .int .u32 v.2] 46 ∧ KMap E46 w' mw nw f) (by kernel_rfl) ⟨hA3.row, rX, hA3.wr⟩ fun hS => ?_
            refine tkH (i := 0) (v := .pointer (some ⟨g, 0, none⟩)) rfl (by kernel_rfl) (fun _ _ _ h => h) (Or.inl ⟨by rfl, fun w _ => by go_simp⟩) hS ?_
            try simp only [Act.put, nz0, nz1, nz2, nz3, nz4, nz5]
            refine tkH (i := 1) (v := .pointer (some ⟨g, 0, none⟩)) rfl (by kernel_rfl) (fun _ _ _ h => h) (Or.inl ⟨by rfl, fun w _ => by go_simp⟩) hS ?_
            try simp only [Act.put, nz0, nz1, nz2, nz3, nz4, nz5]
            refine tkH (i := 2) (v := .pointer (some ⟨g, 1, none⟩)) rfl (by kernel_rfl) (fun _ _ _ h => h) (Or.inl ⟨by rfl, fun w _ => by go_simp⟩) hS ?_
            try simp only [Act.put, nz0, nz1, nz2, nz3, nz4, nz5]
            refine tkH (i := 3) (v := .map (some mw)) rfl (by kernel_rfl) (fun _ _ _ h => h) (Or.inl ⟨by rfl, fun w h => by have c := row_at h.1 1 _ rfl; go_simp⟩) hS ?_
            try simp only [Act.put, nz0, nz1, nz2, nz3, nz4, nz5]
            refine tkH (i := 4) (v := .agg #[.int .u16 v.1, .int .u32 v.2]) rfl (by kernel_rfl) (fun _ _ _ h => h) (yields_cells (by rfl) 46 (.tmp 6) rfl Y rfl 46 #[.int .u16 v.1, .int .u32 v.2] (fun w h => h.2.1) 2 Try.underlying46 rfl size46 rfl) hS ?_
            try simp only [Act.put, nz0, nz1, nz2, nz3, nz4, nz5]
            refine tkH (i := 5) (v := .tuple #[.int .i64 0, .bool false]) rfl (by kernel_rfl) (fun _ _ _ h => h) (yields_lookup (by rfl) 92 (.tmp 29) (.tmp 30) true rfl _ _ _ rfl rfl (fun w h => HLK.out w h.2.2)) hS ?_
            try simp only [Act.put, nz0, nz1, nz2, nz3, nz4, nz5]
            refine tkH (i := 6) (v := .tuple #[.int .i64 0, .bool false]) rfl (by kernel_rfl) (fun _ _ _ h => h) (Or.inl ⟨by rfl, fun w _ => by go_simp⟩) hS ?_
            try simp only [Act.put, nz0, nz1, nz2, nz3, nz4, nz5]
            refine tkH (i := 7) (v := .int .i64 0) rfl (by kernel_rfl) (fun _ _ _ h => h) (Or.inl ⟨by rfl, fun w _ => by go_simp⟩) hS ?_
            try simp only [Act.put, nz0, nz1, nz2, nz3, nz4, nz5]
            refine tkH (i := 8) (v := .bool false) rfl (by kernel_rfl) (fun _ _ _ h => h) (Or.inl ⟨by rfl, fun w _ => by go_simp⟩) hS ?_
            try simp only [Act.put, nz0, nz1, nz2, nz3, nz4, nz5]
            refine tkH (i := 9) (v := .int .i64 0) rfl (by kernel_rfl) (fun _ _ _ h => h) (Or.inl ⟨by rfl, fun w _ => by go_simp⟩) hS ?_
            try simp only [Act.put, nz0, nz1, nz2, nz3, nz4, nz5]
            refine tkH (i := 10) (v := .bool false) rfl (by kernel_rfl) (fun _ _ _ h => h) (Or.inl ⟨by rfl, fun w _ => by go_simp⟩) hS ?_
            try simp only [Act.put, nz0, nz1, nz2, nz3, nz4, nz5]
            refine wpAnyH_done (by kernel_rfl) ?_ _
            have hA4 : HAt w3.drew g mw mc md mp (.slice (some a) n2 cap2) hs f nw nc F G := hA3.below (Below.refl _ _).drew
            have Bw4 := Bw3.drew
            have h14 : Held1 w3.drew _ := h13.keep (Below.refl _ _).drew
            have f1 : w3.drew.cell? ⟨Y, 1, none⟩ = some (.int .u32 v.2) := row_at (show Row w3.drew Y _ 46 from rX) 1 _ rfl
            clear hA3 Bw3 h13 hS rX
            by_cases hz : v.2 = 0
            · have HNX : Hid (¬ UpR hs (AbR hs) i (k + 1)) := fun q => by
                rcases (UpR.step HE.out HV.out).1 q with q | q
                · exact HM3.out q
                · exact q.1 hz
              have zb : (v.2 != 0) = false := by simp [hz]
              clear hz
              go_wp2
              go_roundw
              case rel => exact ⟨k + 1, by omega, by go_num, hA4, HNX.out, Bw4, h14⟩
              case measure => simp [intOf]; omega
            · have zb : (v.2 != 0) = true := by simp [hz]
              have hfin := HYES.out ⟨i, _, v, HE.out, HM.out, hz, HNO.out⟩ _ Bw4
              clear hz hA4 Bw4 h14
              go_wp2
              exact hfin
        · have hkn' : ¬ (k : Int) < (rn : Int) := by omega
          obtain rfl : k = rn := by omega
          have HNX : Hid (¬ UpR hs (AbR hs) (i + 1) 0) := fun q => M3 (by rw [UpR.next HE.out] at q; rw [HRN.out]; exact q)
          clear M3 h1
          go_wp2
          go_roundw
          case rel => exact ⟨i + 1, by omega, by go_num, hA, HNX.out, Bw⟩
          case measure => simp [intOf]; omega
    · have hin' : ¬ (i : Int) < (n2 : Int) := by omega
      obtain rfl : i = n2 := by omega
      have hfin := HNOT.out (fun q => M3 ((UpR.all (Nat.le_of_eq HN2.out)).2 q)) _ Bw
      clear hA M3 Bw
      go_wp2
      exact hfin
theorem yields_load_any {P : Program} {ops : Array Oper} {S : World → Prop} {op : Oper} {a : Act} (hw : Region.wanted op (yielded ops a.tmps) = true) (ty : TypeId) (x : Operand) (ho : op.op = .load ty x)
    (p : Addr) (hx : a.eval x = .pointer (some p)) (cs : List Value) (d : TypeDesc) (hc : ∀ w, S w → ∀ j v, cs[j]? = some v → w.cell? (p.add j) = some v)
    (hu : P.underlying ty = some d) (hd : d.isRow = true) (hi : (P.info? ty).map (·.size) = some cs.length) : YieldsIf P ops S op (.agg cs.toArray) a := by
  refine Or.inl ⟨hw, fun w hS => ?_⟩
  have hl : (loadCells p cs.length).run P w = .ok cs.toArray w := run_loadCells_list (P := P) w p cs (hc w hS)
  have hrun : (loadVar ty p).run P w = .ok (.agg cs.toArray) w := by
    cases hq : P.info? ty with
    | none => simp [hq] at hi
    | some i =>
      have hs : i.size = cs.length := by simpa [hq] using hi
      have hagg : (isAgg ty).run P w = .ok true w := by
        unfold isAgg
        rw [Sem.run_bind, run_underlying hu w]
        cases d <;> simp_all
      simp [loadVar, Sem.run_bind, hagg, sizeOf, typeInfo, hq, hs, hl]
  unfold execOp
  simp only [ho, hx, Instr.loadAt, Instr.sureAddr, Sem.run_bind, Sem.run_pure, Result.andThen_ok, hrun]
theorem addr_zero (p : Addr) : p.add 0 = p := by unfold Addr.add; simp
theorem SMp.unit {hs : List Hm} {f : Int × Int → Option Value} {D : Int × Int → Prop} (h : ∀ s, (D s → f s = some (.agg #[])) ∧ (¬ D s → f s = none)) {s : Int × Int} {v : Value} (hf : f s = some v) : D s ∧ v = .agg #[] := by
  by_cases q : D s
  · rw [(h s).1 q] at hf; exact ⟨q, (Option.some.inj hf).symm⟩
  · rw [(h s).2 q] at hf; cases hf
theorem DepI.nat {hs : List Hm} {s : Int × Int} (h : DepI hs s) : ∃ i j : Nat, s = ((i : Int), (j : Int)) ∧ i < hs.length ∧ j < hs.length := by
  rcases h with ⟨v, j, k, a1, a2, _, rfl⟩ | ⟨i, h, v, a1, _, ⟨j, b1, _, rfl⟩⟩
  · exact ⟨j, k, rfl, a1.lt, a2.lt⟩
  · exact ⟨j, i, rfl, b1.lt, (List.getElem?_eq_some_iff.1 a1).1⟩
theorem PasI.nat {hs : List Hm} {s : Int × Int} (h : PasI hs s) : ∃ i j : Nat, s = ((i : Int), (j : Int)) ∧ i < hs.length ∧ j < hs.length := by
  obtain ⟨i, h, v, a1, _, _, k, b1, _, rfl⟩ := h
  exact ⟨k, i, rfl, b1.lt, (List.getElem?_eq_some_iff.1 a1).1⟩
def BadS (hs : List Hm) (s : Int × Int) : Prop := ∃ (i j : Nat) (x y : Hm), s = ((i : Int), (j : Int)) ∧ hs[i]? = some x ∧ hs[j]? = some y ∧ y.p.st < x.p.en
def InI (hs : List Hm) : Prop := ∃ s, DepI hs s ∧ BadS hs s
set_option maxHeartbeats 4000000 in
theorem interfering_any {w : World} {g mw mc md mp : Nat} {lv : Value} {hs : List Hm} {f : Int × Int → Option Value} {nw nc : Nat} {F : Int → Option Value} {G : Int → List Int} (h : HAt w g mw mc md mp lv hs f nw nc F G) {nd : Nat} (hd : SMp w md nd (DepI hs)) :
    Calls Try.prog 23 #[.pointer (some ⟨g, 0, none⟩)] w fun e w' => Says w (InI hs) e w' := by
  obtain ⟨oa2, cap2, hlv, hcs2⟩ := h.list.hold
  clear hcs2
  subst hlv
  have HYES : Hid (InI hs → ∀ w', Below w.heap.size w w' → Says w (InI hs) (.returned (.bool true)) w') := fun q w' hb => ⟨true, rfl, ⟨fun _ => q, fun _ => rfl⟩, hb⟩
  have HNOT : Hid (¬ InI hs → ∀ w', Below w.heap.size w w' → Says w (InI hs) (.returned (.bool false)) w') := fun q w' hb => ⟨false, rfl, ⟨(fun q => by cases q), fun q' => absurd q' q⟩, hb⟩
  generalize Says w (InI hs) = PP at HYES HNOT ⊢
  obtain ⟨n2, HN2⟩ : ∃ n2, Hid (hs.length = n2) := ⟨_, rfl⟩
  have H122 : n2 ≤ 12 := by rw [← HN2.out]; exact h.few
  rw [HN2.out] at h
  obtain ⟨fd, hd1, hd2⟩ := hd
  have HD2 : Hid _ := hd2
  have c3 : w.cell? ⟨g, 3, none⟩ = some (.map (some md)) := row_at h.row 3 _ rfl
  obtain ⟨w0, cnt0, hrun0, R0, hcn0, gi, si⟩ := KMap.range Try.underlying94 hd1
  have Oi : Below w.heap.size w w0 := by
    have o := Off.of_grown (F := fun _ => False) gi (fun k hk => by cases hk)
    exact ⟨o.os, o.tape, o.output, o.size, fun k hk => o.block k hk (fun q => q)⟩
  have A0 := h.below Oi
  have I0 : ∀ s, DepI hs s → (fd s).isSome = false → ¬ BadS hs s := fun s hs' hl => by rw [(hd2 s).1 hs'] at hl; cases hl
  generalize hr : w.heap.size = r at R0 hrun0
  have HRL : Hid (w.heap.size ≤ r) := Nat.le_of_eq hr
  go_enter Try.func23, Try.ntmps23
  go_upto_region 2 with fail
  clear hrun0 c3 gi si h hd1 hd2 hr
  go_loopw [9] (fun _ wr => ∃ (left : Int × Int → Bool) (cnt : Nat), KRng E105 wr md r nd fd left cnt ∧ HAt wr g mw mc md mp (.slice oa2 n2 cap2) hs f nw nc F G ∧ (∀ s, DepI hs s → left s = false → ¬ BadS hs s) ∧ Below w.heap.size w wr) (fun _ wr => wr.rangeLeft md r)
  case atStart => exact ⟨_, cnt0, R0, A0, I0, Oi⟩
  case round =>
    clear R0 A0 I0 Oi hcn0
    obtain ⟨left, cnt, Rk, hA, Ik, Bw⟩ := hrel
    have hle := Rk.left_eq
    rcases Rk.next with ⟨c0, hl0, hnx⟩ | ⟨s, vv, w2, cnt', hy, hlf, hfy, hnx, Rk', hlt, gk, sk', hen⟩
    · have hfin := HNOT.out (fun ⟨s, q1, q2⟩ => Ik s q1 (hl0 s (by
        obtain ⟨i, j, rfl, hi, hj⟩ := q1.nat
        have := HN2.out
        exact stepok_of (by omega) (by omega))) q2) _ Bw
      clear hl0 hA Ik Bw Rk hle
      go_wp2
      exact hfin
    · obtain ⟨hds, rfl⟩ := SMp.unit (hs := hs) HD2.out hfy
      obtain ⟨i, j, rfl, hi, hj⟩ := hds.nat
      replace hnx : ∀ ty, (Instr.next (.pointer (some ⟨r, 0, none⟩)) false ty).run Try.prog wr = .ok (.tuple #[.bool true, .agg #[.int .i64 (i : Int), .int .i64 (j : Int)], .agg #[]]) w2 := hnx
      replace hen : (Instr.entry (.pointer (some ⟨r, 0, none⟩))).run Try.prog w2 = .ok (.tuple #[.agg #[.int .i64 (i : Int), .int .i64 (j : Int)], .agg #[]]) w2 := hen
      obtain ⟨or1, hor1, hor2, hor3⟩ := Rk.range_is
      have Ork : Off (· = r) wr w2 := Off.of_grown gk (fun q hq => by cases hq; rfl)
      have hrm : ∀ m, (∃ es cl, wr.heap[m]? = some (.map es cl)) → ¬ m = r := fun m ⟨es, cl, hm⟩ q => by rw [q, hor1] at hm; exact hor3 _ _ (Option.some.inj hm)
      have hrc : ∀ cs t x, wr.heap[r]? = some (.cells cs t x) → False := fun cs t x h => by rw [hor1] at h; exact hor2 _ _ _ (Option.some.inj h)
      have hA2 : HAt w2 g mw mc md mp (.slice oa2 n2 cap2) hs f nw nc F G := hA.rng Ork hrc (hrm _ hA.wr.is) (hrm _ hA.vt.1.is)
      have Bw2 := below_off Bw Ork (fun k e => by rw [e]; exact HRL.out)
      have HDS : Hid (DepI hs ((i : Int), (j : Int))) := hds
      have HIK : Hid _ := Ik
      clear hrm hrc hor1 hor2 hor3 Ork hA Bw sk' gk Rk hfy hlf hy hds Ik
      go_upto_region 4 with fail
      have rX : Row (w2.alloc (.cells #[.int .i64 (i : Int), .int .i64 (j : Int)] 105)) w2.heap.size #[.int .i64 (i : Int), .int .i64 (j : Int)] 105 := Row.new _ _ _
      have b3 : Below w2.heap.size w2 (w2.alloc (.cells #[.int .i64 (i : Int), .int .i64 (j : Int)] 105)) := (Below.refl _ _).alloc (Nat.le_refl _) _
      have hA3 := hA2.below b3
      have Bw3 := below_trans Bw2 b3
      have Rk3 := Rk'.off (Off.of_below (F := fun _ => False) b3) (fun q => q) (fun q => q)
      generalize w2.alloc (.cells #[.int .i64 (i : Int), .int .i64 (j : Int)] 105) = w3 at rX hA3 Bw3 Rk3 ⊢
      generalize w2.heap.size = X at rX ⊢
      clear b3 hA2 Bw2 Rk' hnx hen
      obtain ⟨oa3, cap3, hlv, hcs3⟩ := hA3.list.hold
      injection hlv with e1 e2 e3
      subst e1
      obtain ⟨a, x, rfl, hx, hcx⟩ := hcs3 i hi
      obtain ⟨a', y, ha', hy, hcy0⟩ := hcs3 j hj
      obtain rfl : a = a' := Option.some.inj ha'
      have hcy : w3.cell? (a.add (j * 5)) = some (.int .u32 y.p.st) := by
        have := hcy0 0 (.int .u32 y.p.st) rfl
        rwa [addr_zero] at this
      have hen := (hA3.list.each x (List.mem_of_getElem? hx)).en
      have HX : Hid _ := hx
      have HY : Hid _ := hy
      rw [HN2.out] at hi hj
      have i1 : (i : Int) < (n2 : Int) := by omega
      have i2 : (j : Int) < (n2 : Int) := by omega
      have i3 : (0 : Int) ≤ (i : Int) := by omega
      have i4 : (0 : Int) ≤ (j : Int) := by omega
      clear hcs3 e2 e3 hcy0 ha' hx hy hi hj
      refine wp_region_held_drew (S := fun w' => Row w' g #[.slice (some a) n2 cap2, .map (some mw), .map (some mc), .map (some md), .map (some mp)] 96 ∧ Row w' X #[.int .i64 (i : Int), .int .i64 (j : Int)] 105 ∧ (∀ q u, x.o.cells[q]? = some u → w'.cell? ((a.add (i * 5)).add q) = some u) ∧ w'.cell? (a.add (j * 5)) = some (.int .u32 y.p.st)) (by kernel_rfl) ⟨hA3.row, rX, hcx, hcy⟩ fun hS => ?_
      refine tkH (i := 0) (v := .pointer (some ⟨g, 0, none⟩)) rfl (by kernel_rfl) (fun _ _ _ h => h) (Or.inl ⟨by rfl, fun w _ => by go_simp⟩) hS ?_
      try simp only [Act.put, nz0, nz1, nz2, nz3, nz4, nz5]
      refine tkH (i := 1) (v := .pointer (some ⟨g, 0, none⟩)) rfl (by kernel_rfl) (fun _ _ _ h => h) (Or.inl ⟨by rfl, fun w _ => by go_simp⟩) hS ?_
      try simp only [Act.put, nz0, nz1, nz2, nz3, nz4, nz5]
      refine tkH (i := 2) (v := .pointer (some ⟨g, 0, none⟩)) rfl (by kernel_rfl) (fun _ _ _ h => h) (Or.inl ⟨by rfl, fun w _ => by go_simp⟩) hS ?_
      try simp only [Act.put, nz0, nz1, nz2, nz3, nz4, nz5]
      refine tkH (i := 3) (v := .slice (some a) n2 cap2) rfl (by kernel_rfl) (fun _ _ _ h => h) (Or.inl ⟨by rfl, fun w h => by have c := row_at h.1 0 _ rfl; go_simp⟩) hS ?_
      try simp only [Act.put, nz0, nz1, nz2, nz3, nz4, nz5]
      refine tkH (i := 4) (v := .pointer (some ⟨X, 0, none⟩)) rfl (by kernel_rfl) (fun _ _ _ h => h) (Or.inl ⟨by rfl, fun w _ => by go_simp⟩) hS ?_
      try simp only [Act.put, nz0, nz1, nz2, nz3, nz4, nz5]
      refine tkH (i := 5) (v := .int .i64 (i : Int)) rfl (by kernel_rfl) (fun _ _ _ h => h) (Or.inl ⟨by rfl, fun w h => by have c := row_at h.2.1 0 _ rfl; go_simp⟩) hS ?_
      try simp only [Act.put, nz0, nz1, nz2, nz3, nz4, nz5]
      refine tkH (i := 6) (v := .pointer (some (a.add (i * 5)))) rfl (by kernel_rfl) (fun _ _ _ h => h) (Or.inl ⟨by rfl, fun w _ => by go_simp⟩) hS ?_
      try simp only [Act.put, nz0, nz1, nz2, nz3, nz4, nz5]
      refine tkH (i := 7) (v := .agg x.o.cells.toArray) rfl (by kernel_rfl) (fun _ _ _ h => h) (yields_load_any (by rfl) 39 (.tmp 19) rfl (a.add (i * 5)) rfl x.o.cells _ (fun w h => h.2.2.1) Try.underlying39 rfl Pa.size39) hS ?_
      try simp only [Act.put, nz0, nz1, nz2, nz3, nz4, nz5]
      refine tkH (i := 9) (v := .pointer (some ⟨g, 0, none⟩)) rfl (by kernel_rfl) (fun _ _ _ h => h) (Or.inl ⟨by rfl, fun w _ => by go_simp⟩) hS ?_
      try simp only [Act.put, nz0, nz1, nz2, nz3, nz4, nz5]
      refine tkH (i := 10) (v := .pointer (some ⟨g, 0, none⟩)) rfl (by kernel_rfl) (fun _ _ _ h => h) (Or.inl ⟨by rfl, fun w _ => by go_simp⟩) hS ?_
      try simp only [Act.put, nz0, nz1, nz2, nz3, nz4, nz5]
      refine tkH (i := 11) (v := .pointer (some ⟨g, 0, none⟩)) rfl (by kernel_rfl) (fun _ _ _ h => h) (Or.inl ⟨by rfl, fun w _ => by go_simp⟩) hS ?_
      try simp only [Act.put, nz0, nz1, nz2, nz3, nz4, nz5]
      refine tkH (i := 12) (v := .slice (some a) n2 cap2) rfl (by kernel_rfl) (fun _ _ _ h => h) (Or.inl ⟨by rfl, fun w h => by have c := row_at h.1 0 _ rfl; go_simp⟩) hS ?_
      try simp only [Act.put, nz0, nz1, nz2, nz3, nz4, nz5]
      refine tkH (i := 13) (v := .pointer (some ⟨X, 1, none⟩)) rfl (by kernel_rfl) (fun _ _ _ h => h) (Or.inl ⟨by rfl, fun w _ => by go_simp⟩) hS ?_
      try simp only [Act.put, nz0, nz1, nz2, nz3, nz4, nz5]
      refine tkH (i := 14) (v := .int .i64 (j : Int)) rfl (by kernel_rfl) (fun _ _ _ h => h) (Or.inl ⟨by rfl, fun w h => by have c := row_at h.2.1 1 _ rfl; go_simp⟩) hS ?_
      try simp only [Act.put, nz0, nz1, nz2, nz3, nz4, nz5]
      refine tkH (i := 15) (v := .pointer (some (a.add (j * 5)))) rfl (by kernel_rfl) (fun _ _ _ h => h) (Or.inl ⟨by rfl, fun w _ => by go_simp⟩) hS ?_
      try simp only [Act.put, nz0, nz1, nz2, nz3, nz4, nz5]
      refine tkH (i := 16) (v := .pointer (some (a.add (j * 5)))) rfl (by kernel_rfl) (fun _ _ _ h => h) (Or.inl ⟨by rfl, fun w _ => by go_simp⟩) hS ?_
      try simp only [Act.put, nz0, nz1, nz2, nz3, nz4, nz5]
      refine tkH (i := 17) (v := .int .u32 y.p.st) rfl (by kernel_rfl) (fun _ _ _ h => h) (Or.inl ⟨by rfl, fun w h => by have c := h.2.2.2; go_simp⟩) hS ?_
      try simp only [Act.put, nz0, nz1, nz2, nz3, nz4, nz5]
      have hend := end_any x.o w3.drew
      rw [hen] at hend
      refine wpAnyH_ready (rs := [8]) (by kernel_rfl) (by simp) ?_
      refine AllReadyH.cons rfl (fun K hK => ?_) AllReadyH.nil
      go_simp
      go_at_call 48
      refine Calls.mono hend ?_
      clear hend
      rintro e wb ⟨he, hb2⟩
      obtain rfl := he
      have hb3 : Below w3.heap.size w3 wb := below_trans (Below.refl _ _).drew hb2
      have hA4 := hA3.below hb3
      have Bw4 := below_trans Bw3 hb3
      have Rk4 := Rk3.off (Off.of_below (F := fun _ => False) hb3) (fun q => q) (fun q => q)
      refine hK.out _ _ ⟨hA4.row, rX.below hb3 rX.lt, fun q u hq => cell_keep (hcx q u hq) hb3, cell_keep hcy hb3⟩ fun hS => ?_
      try simp only [Act.put, nz0, nz1, nz2, nz3, nz4, nz5]
      have hle4 := Rk4.left_eq
      by_cases hbad : y.p.st < x.p.en
      · have hfin := HYES.out ⟨_, HDS.out, i, j, x, y, rfl, HX.out, HY.out, hbad⟩ _ Bw4
        have hgt : x.p.en > y.p.st := hbad
        clear hA3 hA4 Bw3 Bw4 Rk3 Rk4 hcx hcy rX hb2 hb3 hen
        refine tkH (i := 18) (v := .bool true) rfl (by kernel_rfl) (fun _ _ _ h => h) (Or.inl ⟨by rfl, fun w _ => by go_simp⟩) hS ?_
        try simp only [Act.put, nz0, nz1, nz2, nz3, nz4, nz5]
        refine wpAnyH_done (by kernel_rfl) ?_ _
        clear hS
        go_wp2
        exact hfin
      · have hI4 : ∀ s, DepI hs s → (left s && !decide (s = ((i : Int), (j : Int)))) = false → ¬ BadS hs s := fun s q1 q2 q3 => by
          by_cases e : s = ((i : Int), (j : Int))
          · obtain ⟨i', j', x', y', e1, b1, b2, b3⟩ := q3
            rw [e] at e1
            have e2 : i = i' := by have := congrArg Prod.fst e1; simp at this; omega
            have e3 : j = j' := by have := congrArg Prod.snd e1; simp at this; omega
            subst e2 e3
            have c1 := HX.out; rw [b1] at c1; cases c1
            have c2 := HY.out; rw [b2] at c2; cases c2
            exact hbad b3
          · exact HIK.out s q1 (by simpa [e] using q2) q3
        have hgt : ¬ x.p.en > y.p.st := hbad
        clear hA3 Bw3 Rk3 hcx hcy rX hb2 hb3 hen hbad
        refine tkH (i := 18) (v := .bool false) rfl (by kernel_rfl) (fun _ _ _ h => h) (Or.inl ⟨by rfl, fun w _ => by go_simp⟩) hS ?_
        try simp only [Act.put, nz0, nz1, nz2, nz3, nz4, nz5]
        refine wpAnyH_done (by kernel_rfl) ?_ _
        clear hS
        go_wp2
        go_roundw
        case rel => exact ⟨_, cnt', Rk4, hA4, hI4, Bw4⟩
        case measure => rw [hle4, hle]; exact hlt
end Go.Proofs.Ytdlllnkcjfpajaa
namespace Go.Proofs.Ytdlllnkcjfpajaa.Ii
open Go.ChangeShapes Go.WideShapes Go.ChangeAt Go.RowKit
set_option linter.unusedVariables false
set_option linter.unusedSimpArgs false
structure O where
  x : Int
def O.zero : O := ⟨0⟩
def O.cells (o : O) : List Value := [.int .i64 o.x]
def O.arr (o : O) : Array Value := #[.int .i64 o.x]
theorem O.cells_length (o : O) : o.cells.length = 1 := rfl
def flat (os : List O) : List Value := os.flatMap O.cells
theorem flat_length : ∀ os : List O, (flat os).length = os.length * 1
  | [] => rfl
  | o :: r => by
    have := flat_length r
    show (o.cells ++ flat r).length = _
    rw [List.length_append, this, O.cells_length]; simp; omega
theorem flat_at : ∀ (os : List O) (i j : Nat) (o : O), os[i]? = some o → j < 1 → (flat os)[i * 1 + j]? = o.cells[j]?
  | [], i, j, o, h, _ => by simp at h
  | p :: r, 0, j, o, h, hj => by
    simp at h; subst h
    show (p.cells ++ flat r)[0 * 1 + j]? = _
    rw [Nat.zero_mul, Nat.zero_add, List.getElem?_append_left (by rw [O.cells_length]; exact hj)]
  | p :: r, i + 1, j, o, h, hj => by
    simp at h
    show (p.cells ++ flat r)[(i + 1) * 1 + j]? = _
    rw [List.getElem?_append_right (by rw [O.cells_length]; omega), O.cells_length, show (i + 1) * 1 + j - 1 = i * 1 + j by omega]
    exact flat_at r i j o h hj
theorem flat_one : ∀ os : List O, ∀ u ∈ flat os, u.oneCell' = true := by
  intro os u hu
  obtain ⟨o, _, h⟩ := List.mem_flatMap.1 hu
  simp [O.cells] at h
  rcases h with rfl <;> rfl
theorem flat_append (a b : List O) : flat (a ++ b) = flat a ++ flat b := by simp [flat]
def Olds (w : World) (v : Value) (os : List O) : Prop :=
  (v = .slice none 0 0 ∧ os = []) ∨ ∃ a cap, v = .slice (some a) os.length cap ∧ ∀ j u, (flat os)[j]? = some u → w.cell? (a.add j) = some u
theorem cell_keep {w w' : World} {p : Addr} {u : Value} (h : w.cell? p = some u) (hb : Below w.heap.size w w') : w'.cell? p = some u := by
  rw [← h]
  refine World.cell?_of_block (hb.block _ ?_)
  unfold World.cell? at h
  by_cases q : p.block < w.heap.size
  · exact q
  · rw [Array.getElem?_eq_none (by omega)] at h; cases h
theorem Olds.keep {w w' : World} {v : Value} {os : List O} (h : Olds w v os) (hb : Below w.heap.size w w') : Olds w' v os := by
  rcases h with h | ⟨a, cap, rfl, h⟩
  · exact Or.inl h
  · exact Or.inr ⟨a, cap, rfl, fun j u hj => cell_keep (h j u hj) hb⟩
theorem add_add (a : Addr) (m j : Nat) : (a.add m).add j = a.add (m + j) := by
  unfold Addr.add
  by_cases h1 : m = 0
  · subst h1; simp
  · by_cases h2 : j = 0
    · subst h2; simp [h1]
    · rw [if_neg h2, if_neg h1, if_neg (by omega)]; simp; omega
theorem Olds.open {w : World} {v : Value} {os : List O} (h : Olds w v os) : ∃ oa cap, v = .slice oa os.length cap ∧ ∀ i, i < os.length → ∃ (a : Addr) (o : O), oa = some a ∧ os[i]? = some o ∧ ∀ j u, o.cells[j]? = some u → w.cell? ((a.add (i * 1)).add j) = some u := by
  rcases h with ⟨rfl, rfl⟩ | ⟨a, cap, rfl, h⟩
  · exact ⟨none, 0, rfl, fun i hi => absurd hi (by simp)⟩
  · refine ⟨some a, cap, rfl, fun i hi => ⟨a, os[i], rfl, by simp [hi], fun j u hj => ?_⟩⟩
    rw [add_add]
    have hj2 : j < 1 := by have := (List.getElem?_eq_some_iff.1 hj).1; simpa [O.cells] using this
    exact h _ u (by rw [flat_at os i j os[i] (by simp [hi]) hj2]; exact hj)
def Own (w : World) (base : Nat) (v : Value) (os : List O) : Prop := w.ownsRow base 3 1 v os.length (flat os)
theorem Own.olds {w : World} {base : Nat} {v : Value} {os : List O} (h : Own w base v os) : Olds w v os := by
  have hc := fun g hg => World.ownsRow.cells h (g := g) hg
  obtain ⟨h1, h2⟩ := h
  rcases h2 with ⟨rfl, h2⟩ | ⟨g, cap, cur, rfl, hb, hg, _⟩
  · exact Or.inl ⟨rfl, List.eq_nil_of_length_eq_zero h2⟩
  · exact Or.inr ⟨⟨g, 0, none⟩, cap, rfl, hc g rfl⟩
theorem Own.keep {w w' : World} {base : Nat} {v : Value} {os : List O} (h : Own w base v os) (hb : Below w.heap.size w w') : Own w' base v os := by
  have hl := World.ownsRow.lt h
  obtain ⟨h1, h2⟩ := h
  refine ⟨h1, ?_⟩
  rcases h2 with h2 | ⟨g, cap, cur, rfl, hb', hc, rest⟩
  · exact Or.inl h2
  · have := hl g (by simp [Value.ownBlock])
    exact Or.inr ⟨g, cap, cur, rfl, hb', (hb.block g this.2).trans hc, rest⟩
theorem info_parts {P : Program} {t : TypeId} {z : Option Value} {n b : Nat} (h : (P.info? t).map (fun i => (i.zero, i.size, i.bytes)) = some (z, n, b)) : ∃ i, P.info? t = some i ∧ i.zero = z ∧ i.size = n ∧ i.bytes = b := by
  obtain ⟨i, hi, e⟩ := Option.map_eq_some_iff.1 h
  simp only [Prod.mk.injEq] at e
  exact ⟨i, hi, e.1, e.2.1, e.2.2⟩
theorem info3 : (Try.prog.info? 3).map (fun i => (i.zero, i.size, i.bytes)) = some (some (.int .i64 0), 1, 8) := by kernel_rfl
theorem flat_get (os : List O) (j : Nat) : (flat os)[j]? = (os[j / 1]?).bind (fun o => o.cells[j % 1]?) := by
  have e : j = j / 1 * 1 + j % 1 := by omega
  cases h : os[j / 1]? with
  | some o =>
    have := flat_at os (j / 1) (j % 1) o h (by omega)
    rw [← e] at this; rw [this]; rfl
  | none =>
    have hl : os.length ≤ j / 1 := by simpa using h
    rw [List.getElem?_eq_none (by rw [flat_length]; omega)]; rfl
theorem Own.blk {w : World} {base : Nat} {v : Value} {os : List O} (h : Own w base v os) (hn : 0 < os.length) : ∃ g cap, v = .slice (some ⟨g, 0, none⟩) os.length cap ∧ base ≤ g := by
  rcases h.2 with ⟨rfl, h2⟩ | ⟨g, cap, cur, rfl, hb, _⟩
  · omega
  · exact ⟨g, cap, rfl, hb⟩
theorem Own.there {w : World} {base g n cap : Nat} {os : List O} (h : Own w base (.slice (some ⟨g, 0, none⟩) n cap) os) (s : Nat) (hs : s < os.length) : w.there g (s * 1) 1 := fun j hj => by
  rcases h.2 with ⟨q, _⟩ | ⟨g', cap', cur, q, hb, hc, hle, _, hsz, _⟩
  · cases q
  · cases q
    have r : Row w g cur 3 := hc
    refine ⟨?_, row_frozen r _⟩
    have hm : os.length * 1 ≤ cap * 1 := Nat.mul_le_mul_right _ hle
    rw [cell_of_row w g _ _ _ _ r, Array.getElem?_eq_getElem (by rw [hsz]; omega)]; rfl
theorem wp_copy {T : Value → World → Prop} {w : World} {o : Oper} {a : Act} {K : Act → World → Prop} {Q : Exit → Act → World → Prop} (s x : Operand) (t : TypeId)
    (ho : o.op = .call { callee := .builtin .append, args := #[s, x], argTypes := #[t, t] }) (sv v : Value) (hs : a.eval s = sv) (hx : a.eval x = v)
    (hr : ∀ ty, ∃ v' w', (Builtin.append_ #[t, t] ty #[sv, v]).run Try.prog w = .ok v' w' ∧ T v' w')
    (h : ∀ v' w', T v' w' → K (a.put o.dst v') w') : Oper.wp Try.prog o a w K Q := by
  obtain ⟨v', w', hrun, hT⟩ := hr o.type
  unfold Oper.wp
  simp [execOp, ho, resolve, invoke, builtin, hs, hx, hrun, Result.andThen]
  exact h v' w' hT
theorem wpList_copy {T : Value → World → Prop} {w : World} {ops : Array Oper} {rest : List Oper} {o : Oper} {a : Act} {Q : Exit → Act → World → Prop} (hgd : o.guard = none) (s x : Operand) (t : TypeId)
    (ho : o.op = .call { callee := .builtin .append, args := #[s, x], argTypes := #[t, t] }) (sv v : Value) (hs : a.eval s = sv) (hx : a.eval x = v)
    (hr : ∀ ty, ∃ v' w', (Builtin.append_ #[t, t] ty #[sv, v]).run Try.prog w = .ok v' w' ∧ T v' w')
    (h : ∀ v' w', T v' w' → wpList Try.prog ops Q rest (a.put o.dst v') w') : wpList Try.prog ops Q (o :: rest) a w := by
  refine wpList_plain hgd fun K hK => ?_
  obtain ⟨v', w', hrun, hT⟩ := hr o.type
  unfold Oper.wp
  simp [execOp, ho, resolve, invoke, builtin, hs, hx, hrun, Result.andThen]
  exact hK _ _ (h v' w' hT)
theorem Own.alloc {w : World} {base : Nat} {v : Value} {os : List O} (h : Own w base v os) (o : Obj) : Own (w.alloc o) base v os := h.keep ((Below.refl _ _).alloc (Nat.le_refl _) _)
theorem Own.form {w : World} {base : Nat} {v : Value} {os : List O} (h : Own w base v os) : ∃ oa cap, v = .slice oa os.length cap := by
  rcases h.2 with ⟨rfl, h2⟩ | ⟨g, cap, cur, rfl, _⟩
  · exact ⟨none, 0, by rw [h2]⟩
  · exact ⟨_, cap, rfl⟩
theorem Own.base {w : World} {base base' : Nat} {v : Value} {os : List O} (h : Own w base v os) (hb : base' ≤ base) : Own w base' v os := by
  obtain ⟨h1, h2⟩ := h
  refine ⟨h1, ?_⟩
  rcases h2 with h2 | ⟨g, cap, cur, rfl, hb', rest⟩
  · exact Or.inl h2
  · exact Or.inr ⟨g, cap, cur, rfl, by omega, rest⟩
theorem Own.snocP {w : World} {base : Nat} {v : Value} {os : List O} (h : Own w base v os) (ty : TypeId) (X : Nat) (p : O) (hX : Row w X p.arr 3) (hb : base ≤ w.heap.size) (hn : os.length ≤ 1000) :
    ∃ v' w', (Builtin.append_ #[103, 103] ty #[v, .slice (some ⟨X, 0, none⟩) 1 1]).run Try.prog w = .ok v' w' ∧ Own w' base v' (os ++ [p]) ∧ w.grownBy w' v.ownBlock := by
  obtain ⟨i, hi, hz, hs, hby⟩ := info_parts info3
  obtain ⟨v', w', hr, h2, h3, h4, h5⟩ := run_append_own_at (P := Try.prog) w base 103 ty 3 i _ 1 8 Try.underlying103 hi hz hs hby rfl (by decide) v os.length (flat os) h ⟨X, 0, none⟩ 1 1 p.cells rfl (fun j u hj => by rw [Addr.add_mid, Nat.zero_add, cell_of_row w X j _ _ _ hX, ← hj]; show p.cells.toArray[j]? = _; rw [List.getElem?_toArray]) (fun u hu => flat_one [p] u (by simpa [flat] using hu)) (by unfold maxLen; omega) (by omega) hb
  refine ⟨v', w', hr, ?_, h3⟩
  unfold Own
  rw [flat_append, List.length_append]
  exact h2
theorem Olds.hold {w : World} {v : Value} {os : List O} (h : Olds w v os) : ∃ oa cap, v = .slice oa os.length cap ∧ ∀ i, i < os.length → ∃ (a : Addr) (x0 : Int), oa = some a ∧ os[i]? = some ⟨x0⟩ ∧ ∀ j u, ([.int .i64 x0] : List Value)[j]? = some u → w.cell? ((a.add (i * 1)).add j) = some u := by
  obtain ⟨oa, cap, h1, h2⟩ := h.open
  refine ⟨oa, cap, h1, fun i hi => ?_⟩
  obtain ⟨a, ⟨x0⟩, e1, e2, e3⟩ := h2 i hi
  exact ⟨a, x0, e1, e2, e3⟩
end Go.Proofs.Ytdlllnkcjfpajaa.Ii
