/-
  Proved here: the document's Check.
-/
import Derived.Test.YtdlllnkcjfpajaaJq20
namespace Go.Proofs.Ytdlllnkcjfpajaa
open Go.ChangeShapes Go.WideShapes Go.ChangeAt Go.RowKit
set_option linter.unusedVariables false
set_option linter.unusedSimpArgs false
set_option maxRecDepth 20000
open Relation
def PairOk (ps : List Hm) (i j : Nat) : Prop := i ≠ j → ∀ x y : Hm, ps[i]? = some x → ps[j]? = some y → x.p.com = true → y.p.com = true → x.p.co ≠ y.p.co
def HisR (ps : List Hm) : Prop := (∀ x ∈ ps, x.p.com = true → x.p.st < x.p.co) ∧ ∀ i, i < ps.length → ∀ j, j < ps.length → PairOk ps i j
def CirAt (ps : List Hm) (i : Nat) : Prop := TransGen (StR ps false) i i
def IntAt (ps : List Hm) (i k : Nat) : Prop := DepR ps i k ∧ ¬ AheR ps i k
def MisV (ps : List Hm) (i : Nat) (v : Int × Int) (k : Nat) : Prop := k ≠ i ∧ FolR ps v.1 v.2 k ∧ TransGen (StR ps true) k i ∧ (v.2 = 0 ∨ ComR ps v)
def MisAt (ps : List Hm) (i : Nat) : Prop := ∃ x, ps[i]? = some x ∧ x.p.dn = true ∧ ∃ v ∈ x.p.rs, ∃ k, k < ps.length ∧ MisV ps i v k
def AboV (ps : List Hm) (v : Int × Int) : Prop := v.2 ≠ 0 ∧ ¬ ComR ps v
def AboAt (ps : List Hm) (i : Nat) : Prop := ∃ x, ps[i]? = some x ∧ x.p.dn = true ∧ ∃ v ∈ x.p.rs, AboV ps v
def OutB (A C I M : Prop) (o : Int) : Prop := ∃ a c i m : Bool, o = bitsH a c i m ∧ (a = true ↔ A) ∧ (c = true ↔ C) ∧ (i = true ↔ I) ∧ (m = true ↔ M)
theorem OutB.zero : OutB False False False False 0 := ⟨false, false, false, false, rfl, ⟨(fun q => by cases q), fun q => q.elim⟩, ⟨(fun q => by cases q), fun q => q.elim⟩, ⟨(fun q => by cases q), fun q => q.elim⟩, ⟨(fun q => by cases q), fun q => q.elim⟩⟩
theorem OutB.congr {A C I M A' C' I' M' : Prop} {o : Int} (h : OutB A C I M o) (hA : A ↔ A') (hC : C ↔ C') (hI : I ↔ I') (hM : M ↔ M') : OutB A' C' I' M' o := by
  obtain ⟨a, c, i, m, e, h1, h2, h3, h4⟩ := h
  exact ⟨a, c, i, m, e, h1.trans hA, h2.trans hC, h3.trans hI, h4.trans hM⟩
theorem OutB.a {A C I M A' : Prop} {o : Int} (h : OutB A C I M o) (hA : A') : OutB A' C I M (bits BinOp.or IntKind.u8 o 1) := by
  obtain ⟨a, c, i, m, rfl, h1, h2, h3, h4⟩ := h
  exact ⟨true, c, i, m, by cases a <;> cases c <;> cases i <;> cases m <;> decide +kernel, ⟨fun _ => hA, fun _ => rfl⟩, h2, h3, h4⟩
theorem OutB.c {A C I M C' : Prop} {o : Int} (h : OutB A C I M o) (hC : C') : OutB A C' I M (bits BinOp.or IntKind.u8 o 2) := by
  obtain ⟨a, c, i, m, rfl, h1, h2, h3, h4⟩ := h
  exact ⟨a, true, i, m, by cases a <;> cases c <;> cases i <;> cases m <;> decide +kernel, h1, ⟨fun _ => hC, fun _ => rfl⟩, h3, h4⟩
theorem OutB.i {A C I M I' : Prop} {o : Int} (h : OutB A C I M o) (hI : I') : OutB A C I' M (bits BinOp.or IntKind.u8 o 4) := by
  obtain ⟨a, c, i, m, rfl, h1, h2, h3, h4⟩ := h
  exact ⟨a, c, true, m, by cases a <;> cases c <;> cases i <;> cases m <;> decide +kernel, h1, h2, ⟨fun _ => hI, fun _ => rfl⟩, h4⟩
theorem OutB.m {A C I M M' : Prop} {o : Int} (h : OutB A C I M o) (hM : M') : OutB A C I M' (bits BinOp.or IntKind.u8 o 8) := by
  obtain ⟨a, c, i, m, rfl, h1, h2, h3, h4⟩ := h
  exact ⟨a, c, i, true, by cases a <;> cases c <;> cases i <;> cases m <;> decide +kernel, h1, h2, h3, ⟨fun _ => hM, fun _ => rfl⟩⟩
def ShownD (ps : List Hm) (o : Int) : Prop := OutB (∃ i, i < ps.length ∧ AboAt ps i) (∃ i, i < ps.length ∧ CirAt ps i) (∃ i, i < ps.length ∧ ∃ k, k < ps.length ∧ IntAt ps i k) (∃ i, i < ps.length ∧ MisAt ps i) o
def CheckD (w : World) (ps : List Hm) (e : Ending) (w' : World) : Prop :=
  Below w.heap.size w w' ∧ ((¬ HisR ps ∧ e = .returned (.tuple #[.int .u8 0, .bool false])) ∨ (HisR ps ∧ ∃ o, e = .returned (.tuple #[.int .u8 o, .bool true]) ∧ ShownD ps o))
theorem ex_succ {P : Nat → Prop} {i : Nat} : (∃ k, k < i + 1 ∧ P k) ↔ (∃ k, k < i ∧ P k) ∨ P i := by
  constructor
  · rintro ⟨k, h1, h2⟩
    by_cases e : k = i
    · subst e; exact Or.inr h2
    · exact Or.inl ⟨k, by omega, h2⟩
  · rintro (⟨k, h1, h2⟩ | h)
    · exact ⟨k, by omega, h2⟩
    · exact ⟨i, by omega, h⟩
theorem or_no {A B : Prop} (h : ¬ B) : (A ∨ B) ↔ A := ⟨fun q => by rcases q with q | q; exact q; exact absurd q h, Or.inl⟩
theorem AboAt.no {ps : List Hm} {i : Nat} {x : Hm} (h : ps[i]? = some x) (hd : x.p.dn = false) : ¬ AboAt ps i := fun ⟨x', q1, q2, _⟩ => by
  rw [h] at q1; injection q1 with q1; subst q1
  rw [hd] at q2; cases q2
theorem MisAt.no {ps : List Hm} {i : Nat} {x : Hm} (h : ps[i]? = some x) (hd : x.p.dn = false) : ¬ MisAt ps i := fun ⟨x', q1, q2, _⟩ => by
  rw [h] at q1; injection q1 with q1; subst q1
  rw [hd] at q2; cases q2
theorem AboAt.is {ps : List Hm} {i : Nat} {x : Hm} (h : ps[i]? = some x) (hd : x.p.dn = true) : AboAt ps i ↔ ∃ v ∈ x.p.rs, AboV ps v := ⟨fun ⟨x', q1, q2, q3⟩ => by
  rw [h] at q1; injection q1 with q1; subst q1; exact q3, fun q => ⟨x, h, hd, q⟩⟩
theorem MisAt.is {ps : List Hm} {i n : Nat} {x : Hm} (hn : ps.length = n) (h : ps[i]? = some x) (hd : x.p.dn = true) : MisAt ps i ↔ ∃ v ∈ x.p.rs, ∃ k, k < n ∧ MisV ps i v k := ⟨fun ⟨x', q1, q2, q3⟩ => by
  rw [h] at q1; injection q1 with q1; subst q1; rw [← hn]; exact q3, fun q => ⟨x, h, hd, by rw [hn]; exact q⟩⟩
theorem ex_zero {P : Nat → Prop} : (∃ k, k < 0 ∧ P k) ↔ False := ⟨fun ⟨k, h, _⟩ => by omega, fun h => h.elim⟩
theorem ex_take {α : Type} {l : List α} {P : α → Prop} {j : Nat} {x : α} (hx : l[j]? = some x) : (∃ y ∈ l.take (j + 1), P y) ↔ (∃ y ∈ l.take j, P y) ∨ P x := by
  obtain ⟨q1, q2⟩ := List.getElem?_eq_some_iff.1 hx
  rw [List.take_succ_eq_append_getElem q1, q2]
  constructor
  · rintro ⟨y, hy, hp⟩
    rcases List.mem_append.1 hy with hy | hy
    · exact Or.inl ⟨y, hy, hp⟩
    · simp at hy; subst hy; exact Or.inr hp
  · rintro (⟨y, hy, hp⟩ | hp)
    · exact ⟨y, by simp [hy], hp⟩
    · exact ⟨x, by simp, hp⟩
set_option maxHeartbeats 16000000 in
theorem checkd_any {w : World} {v : Value} {ps : List Hm} (hh : Helds w v ps) (hn : ps.length ≤ 12) :
    Calls Try.prog 12 #[v] w fun e w' => CheckD w ps e w' := by
  have hz39 := Pa.zero39
  have hz46 := Sn.zero46
  have HNO : Hid (¬ HisR ps → ∀ w', Below w.heap.size w w' → CheckD w ps (.returned (.tuple #[.int .u8 0, .bool false])) w') := fun q w' hb => ⟨hb, Or.inl ⟨q, rfl⟩⟩
  have HYES : Hid (HisR ps → ∀ o w', ShownD ps o → Below w.heap.size w w' → CheckD w ps (.returned (.tuple #[.int .u8 o, .bool true])) w') := fun q o w' h hb => ⟨hb, Or.inr ⟨q, o, rfl, h⟩⟩
  generalize CheckD w ps = PP at HNO HYES ⊢
  obtain ⟨oa, cap, rfl, hcs⟩ := hh.hold
  have HH : Hid (Helds w (.slice oa ps.length cap) ps) := hh
  have HPS : Hid (ps.length ≤ 12) := hn
  obtain ⟨n, HN⟩ : ∃ n, Hid (ps.length = n) := ⟨_, rfl⟩
  rw [HN.out] at hn hcs HH ⊢
  have HCS : Hid (∀ i, i < n → ∃ (a : Addr) (h : Hm), oa = some a ∧ ps[i]? = some h ∧ ∀ j u, h.o.cells[j]? = some u → w.cell? ((a.add (i * 5)).add j) = some u) := hcs
  clear hcs hh
  have b0 : Below w.heap.size w w := Below.refl _ _
  go_enter Try.func12, Try.ntmps12
  go_upto_block 0 with fail
  go_cut [] from 19 to 61 (fun wx => Hid (HisR ps) ∧ Below w.heap.size w wx)
  case first =>
    rename_i K0 h0 J1 K1 hJ1 hM1
    clear h0
    go_wp2_with fail
    go_loopw [21] (fun q wr => ∃ i : Nat, q = .int .i64 (i : Int) ∧ i ≤ n ∧ Below w.heap.size w wr ∧ (∀ x ∈ ps.take i, x.p.com = true → x.p.st < x.p.co) ∧ (∀ i', i' < i → ∀ j, j < n → PairOk ps i' j)) (fun q _ => 1001 - (intOf q).toNat)
    case atStart => exact ⟨0, rfl, Nat.zero_le _, b0, (fun x hx => by simp at hx), fun i' hi => by omega⟩
    case round =>
      clear b0
      rename World => wr
      obtain ⟨i, rfl, hi, hb, hX1, hPI⟩ := hrel
      have HX0 : Hid (∀ x ∈ ps.take i, x.p.com = true → x.p.st < x.p.co) := hX1
      have HPI : Hid (∀ i', i' < i → ∀ j, j < n → PairOk ps i' j) := hPI
      clear hX1 hPI
      by_cases hin : i < n
      · have hin' : (i : Int) < (n : Int) := by omega
        have hi0 : (0 : Int) ≤ (i : Int) := by omega
        obtain ⟨a, x, rfl, hx, hcell⟩ := HCS.out i hin
        have hcw : ∀ q u, x.o.cells[q]? = some u → wr.cell? ((a.add (i * 5)).add q) = some u := fun q u hq => cell_keep (hcell q u hq) hb
        have HX : Hid (ps[i]? = some x) := hx
        have COMX0 : Hid (x.o.com = x.p.com) := (HH.out.each x (List.mem_of_getElem? hx)).com
        clear hx hcell
        have tl : Hid (1 = 1) := rfl
        have q1 : Row (wr.alloc (.cells Pa.O.zero.arr 39)) wr.heap.size Pa.O.zero.arr 39 := Row.new _ _ _
        obtain ⟨k1, k2⟩ := copied wr x.o
        have HB : Hid (Below w.heap.size w wr) := hb
        clear hb
        go_upto_region 4 with (first
          | (have hh := tl; clear hh tl; refine wpList_load_any rfl 39 (.tmp 24) rfl (a.add (i * 5)) rfl x.o.cells _ hcw Try.underlying39 rfl Pa.size39 ?_)
          | (refine store_cells rfl 39 (.tmp 5) (.tmp 25) rfl wr.heap.size x.o.arr rfl rfl 39 _ q1 5 Pa.size39 rfl rfl x.o.arr_one ?_))
        clear q1 hcw
        generalize (wr.alloc (.cells Pa.O.zero.arr 39)).setRow wr.heap.size x.o.arr = w5 at k1 k2 ⊢
        have HB5 : Hid (Below w.heap.size w w5) := below_trans HB.out k2
        generalize wr.heap.size = X at k1 ⊢
        clear k2 HB
        have hc0 := rwrites_any x.o w5
        rw [COMX0.out] at hc0
        obtain ⟨cx, HCX⟩ : ∃ cx, Hid (x.p.com = cx) := ⟨_, rfl⟩
        have COMX : Hid (x.o.com = cx) := by show _ = _; rw [COMX0.out]; exact HCX.out
        rw [HCX.out] at hc0
        have HK5 : Hid (∀ w6, Below w5.heap.size w5 w6 → Row w6 X x.o.arr 39 ∧ Below w.heap.size w w6) := fun w6 hb6 => ⟨k1.below hb6 k1.lt, below_trans HB5.out hb6⟩
        have tl0 : Hid (1 = 1) := rfl
        cases cx with
        | false =>
          have HX1 : Hid (∀ x ∈ ps.take (i + 1), x.p.com = true → x.p.st < x.p.co) := take_all HX.out HX0.out (fun q => by rw [HCX.out] at q; cases q)
          go_upto_region 6 with (first
            | (have hh := tl0; clear hh tl0; refine wpList_load_any rfl 39 (.tmp 5) rfl ⟨X, 0, none⟩ rfl x.o.cells _ (Pa.O.row_cells k1) Try.underlying39 rfl Pa.size39 ?_)
            | (go_at_call 25; refine hc0.mono ?_; clear hc0; rintro e w6 ⟨he, hb6⟩; obtain rfl := he; obtain ⟨rX6, hbx⟩ := HK5.out _ hb6))
          clear k1 hb6
          go_upto_region 7 with fail
          go_loopw [37] (fun q wz => ∃ j : Nat, q = .int .i64 (j : Int) ∧ j ≤ n ∧ Below w.heap.size w wz ∧ Row wz X x.o.arr 39 ∧ (∀ j', j' < j → PairOk ps i j')) (fun q _ => 1001 - (intOf q).toNat)
          case atStart => exact ⟨0, rfl, Nat.zero_le _, hbx, rX6, fun j' hj => by omega⟩
          case round =>
            clear hbx rX6
            rename World => wz
            obtain ⟨j, rfl, hj, hb, rX, hL⟩ := hrel
            have HL : Hid (∀ j', j' < j → PairOk ps i j') := hL
            clear hL
            by_cases hjn : j < n
            · have hjn' : (j : Int) < (n : Int) := by omega
              have hj0 : (0 : Int) ≤ (j : Int) := by omega
              obtain ⟨a', y, ha', hy, hcell⟩ := HCS.out j hjn
              obtain rfl : a = a' := Option.some.inj ha'
              have hcw : ∀ q u, y.o.cells[q]? = some u → wz.cell? ((a.add (j * 5)).add q) = some u := fun q u hq => cell_keep (hcell q u hq) hb
              have HY : Hid (ps[j]? = some y) := hy
              have HY1 : Hid (y.o.com = y.p.com) := (HH.out.each y (List.mem_of_getElem? hy)).com
              clear hy hcell ha'
              have tl : Hid (1 = 1) := rfl
              have q1 : Row (wz.alloc (.cells Pa.O.zero.arr 39)) wz.heap.size Pa.O.zero.arr 39 := Row.new _ _ _
              obtain ⟨k1, k2⟩ := copied wz y.o
              have HB : Hid (Below w.heap.size w wz) := hb
              have HRX : Hid (Row wz X x.o.arr 39) := rX
              clear hb rX
              go_upto_region 9 with (first
                | (have hh := tl; clear hh tl; refine wpList_load_any rfl 39 (.tmp 40) rfl (a.add (j * 5)) rfl y.o.cells _ hcw Try.underlying39 rfl Pa.size39 ?_)
                | (refine store_cells rfl 39 (.tmp 7) (.tmp 41) rfl wz.heap.size y.o.arr rfl rfl 39 _ q1 5 Pa.size39 rfl rfl y.o.arr_one ?_))
              clear q1 hcw
              generalize (wz.alloc (.cells Pa.O.zero.arr 39)).setRow wz.heap.size y.o.arr = w8 at k1 k2 ⊢
              have rX8 := HRX.out.below k2 HRX.out.lt
              have HB8 : Hid (Below w.heap.size w w8) := below_trans HB.out k2
              generalize wz.heap.size = Y at k1 ⊢
              clear k2 HB HRX
              by_cases hij : i = j
              · subst hij
                have HL2 : Hid (∀ j', j' < i + 1 → PairOk ps i j') := fun j' hj' q => by
                  by_cases e : j' = i
                  · exact absurd e.symm q
                  · exact HL.out j' (by omega) q
                have HR8 : Hid (Row w8 X x.o.arr 39) := rX8
                clear k1 rX8
                go_wp2
                go_roundw
                case rel => exact ⟨i + 1, by go_num, by omega, HB8.out, HR8.out, HL2.out⟩
                case measure => simp [intOf]; omega
              · have hij' : ¬ (i : Int) = (j : Int) := by omega
                have hbne : ((i : Int) != (j : Int)) = true := by simp [hij']
                have gx0 : w8.cell? ⟨X, 0, none⟩ = some (.int .u32 x.p.st) := row_at rX8 0 _ rfl; have gx1 : w8.cell? ⟨X, 1, none⟩ = some (.int .u32 x.p.co) := row_at rX8 1 _ rfl; have gx2 : w8.cell? ⟨X, 2, none⟩ = some (.bool x.p.dn) := row_at rX8 2 _ rfl; have gx3 : w8.cell? ⟨X, 3, none⟩ = some (.slice x.r.a x.r.n x.r.c) := row_at rX8 3 _ rfl; have gx4 : w8.cell? ⟨X, 4, none⟩ = some (.slice x.w.a x.w.n x.w.c) := row_at rX8 4 _ rfl
                have HNX : Hid (PairOk ps i j → ∀ j', j' < j + 1 → PairOk ps i j') := fun q j' hj' => by
                  by_cases e : j' = j
                  · rw [e]; exact q
                  · exact HL.out j' (by omega)
                have hc1 := rwrites_any x.o w8
                have hc2 : ∀ w9, Below w8.heap.size w8 w9 → Calls Try.prog 25 #[.agg y.o.arr] w9 fun e w' => e = .returned (.bool y.o.com) ∧ Below w9.heap.size w9 w' := fun w9 _ => rwrites_any y.o w9
                have HC2 : Hid _ := hc2
                have HK9 : Hid (∀ w9, Below w8.heap.size w8 w9 → Row w9 X x.o.arr 39 ∧ Row w9 Y y.o.arr 39 ∧ Below w.heap.size w w9) := fun w9 hb9 => ⟨rX8.below hb9 rX8.lt, k1.below hb9 k1.lt, below_trans HB8.out hb9⟩
                rw [COMX.out] at hc1
                rw [HY1.out] at HC2
                clear hc2
                obtain ⟨cy, HCY⟩ : ∃ cy, Hid (y.p.com = cy) := ⟨_, rfl⟩
                rw [HCY.out] at HC2
                clear k1
                have HL2 := HNX.out (fun _ x' y' q1 q2 q3 => by
                  rw [HX.out] at q1; injection q1 with q1; subst q1
                  rw [HCX.out] at q3; cases q3)
                have HL3 : Hid (∀ j', j' < j + 1 → PairOk ps i j') := HL2
                clear HL2
                have tl1 : Hid (1 = 1) := rfl
                go_wp2_with (have hh := hc1; clear hh; go_at_call 25; refine hc1.mono ?_; clear hc1 gx0 gx1 gx2 gx3 gx4; rintro e w9 ⟨he, hb9⟩; obtain rfl := he; obtain ⟨z1, z2, z3⟩ := HK9.out _ hb9; have hcy := HC2.out w9 hb9; have gy0 : w9.cell? ⟨Y, 0, none⟩ = some (.int .u32 y.p.st) := row_at z2 0 _ rfl; have gy1 : w9.cell? ⟨Y, 1, none⟩ = some (.int .u32 y.p.co) := row_at z2 1 _ rfl; have gy2 : w9.cell? ⟨Y, 2, none⟩ = some (.bool y.p.dn) := row_at z2 2 _ rfl; have gy3 : w9.cell? ⟨Y, 3, none⟩ = some (.slice y.r.a y.r.n y.r.c) := row_at z2 3 _ rfl; have gy4 : w9.cell? ⟨Y, 4, none⟩ = some (.slice y.w.a y.w.n y.w.c) := row_at z2 4 _ rfl; clear z2)
                go_roundw
                case rel => exact ⟨j + 1, by go_num, by omega, z3, z1, HL3.out⟩
                case measure => simp [intOf]; omega
            · have hjn' : ¬ (j : Int) < (n : Int) := by omega
              obtain rfl : j = n := by omega
              clear rX
              have HB : Hid (Below w.heap.size w wz) := hb
              clear hb
              go_wp2
              go_roundw
              case rel => exact ⟨i + 1, by go_num, by omega, HB.out, HX1.out, fun i' hi' j' hj' => by
                by_cases e : i' = i
                · rw [e]; exact HL.out j' hj'
                · exact HPI.out i' (by omega) j' hj'⟩
              case measure => simp [intOf]; omega
        | true =>
          by_cases hle : x.p.co ≤ x.p.st
          · have HNF : Hid (∀ w', Below w.heap.size w w' → PP (.returned (.tuple #[.int .u8 0, .bool false])) w') := HNO.out (fun q => by have := q.1 x (List.mem_of_getElem? HX.out) HCX.out; omega)
            go_wp2_with (first
              | (have hh := tl0; clear hh tl0; refine wpList_load_any rfl 39 (.tmp 5) rfl ⟨X, 0, none⟩ rfl x.o.cells _ (Pa.O.row_cells k1) Try.underlying39 rfl Pa.size39 ?_)
              | (go_at_call 25; refine hc0.mono ?_; clear hc0; rintro e w6 ⟨he, hb6⟩; obtain rfl := he; obtain ⟨rX6, hbx⟩ := HK5.out _ hb6; have f1 : w6.cell? ⟨X, 1, none⟩ = some (.int .u32 x.p.co) := row_at rX6 1 _ rfl; have f0 : w6.cell? ⟨X, 0, none⟩ = some (.int .u32 x.p.st) := row_at rX6 0 _ rfl))
            exact HNF.out _ hbx
          · have HX1 : Hid (∀ x ∈ ps.take (i + 1), x.p.com = true → x.p.st < x.p.co) := take_all HX.out HX0.out (fun q => by omega)
            go_upto_region 6 with (first
              | (have hh := tl0; clear hh tl0; refine wpList_load_any rfl 39 (.tmp 5) rfl ⟨X, 0, none⟩ rfl x.o.cells _ (Pa.O.row_cells k1) Try.underlying39 rfl Pa.size39 ?_)
              | (go_at_call 25; refine hc0.mono ?_; clear hc0; rintro e w6 ⟨he, hb6⟩; obtain rfl := he; obtain ⟨rX6, hbx⟩ := HK5.out _ hb6; have f1 : w6.cell? ⟨X, 1, none⟩ = some (.int .u32 x.p.co) := row_at rX6 1 _ rfl; have f0 : w6.cell? ⟨X, 0, none⟩ = some (.int .u32 x.p.st) := row_at rX6 0 _ rfl))
            clear k1 hb6 f0 f1
            go_upto_region 7 with fail
            go_loopw [37] (fun q wz => ∃ j : Nat, q = .int .i64 (j : Int) ∧ j ≤ n ∧ Below w.heap.size w wz ∧ Row wz X x.o.arr 39 ∧ (∀ j', j' < j → PairOk ps i j')) (fun q _ => 1001 - (intOf q).toNat)
            case atStart => exact ⟨0, rfl, Nat.zero_le _, hbx, rX6, fun j' hj => by omega⟩
            case round =>
              clear hbx rX6
              rename World => wz
              obtain ⟨j, rfl, hj, hb, rX, hL⟩ := hrel
              have HL : Hid (∀ j', j' < j → PairOk ps i j') := hL
              clear hL
              by_cases hjn : j < n
              · have hjn' : (j : Int) < (n : Int) := by omega
                have hj0 : (0 : Int) ≤ (j : Int) := by omega
                obtain ⟨a', y, ha', hy, hcell⟩ := HCS.out j hjn
                obtain rfl : a = a' := Option.some.inj ha'
                have hcw : ∀ q u, y.o.cells[q]? = some u → wz.cell? ((a.add (j * 5)).add q) = some u := fun q u hq => cell_keep (hcell q u hq) hb
                have HY : Hid (ps[j]? = some y) := hy
                have HY1 : Hid (y.o.com = y.p.com) := (HH.out.each y (List.mem_of_getElem? hy)).com
                clear hy hcell ha'
                have tl : Hid (1 = 1) := rfl
                have q1 : Row (wz.alloc (.cells Pa.O.zero.arr 39)) wz.heap.size Pa.O.zero.arr 39 := Row.new _ _ _
                obtain ⟨k1, k2⟩ := copied wz y.o
                have HB : Hid (Below w.heap.size w wz) := hb
                have HRX : Hid (Row wz X x.o.arr 39) := rX
                clear hb rX
                go_upto_region 9 with (first
                  | (have hh := tl; clear hh tl; refine wpList_load_any rfl 39 (.tmp 40) rfl (a.add (j * 5)) rfl y.o.cells _ hcw Try.underlying39 rfl Pa.size39 ?_)
                  | (refine store_cells rfl 39 (.tmp 7) (.tmp 41) rfl wz.heap.size y.o.arr rfl rfl 39 _ q1 5 Pa.size39 rfl rfl y.o.arr_one ?_))
                clear q1 hcw
                generalize (wz.alloc (.cells Pa.O.zero.arr 39)).setRow wz.heap.size y.o.arr = w8 at k1 k2 ⊢
                have rX8 := HRX.out.below k2 HRX.out.lt
                have HB8 : Hid (Below w.heap.size w w8) := below_trans HB.out k2
                generalize wz.heap.size = Y at k1 ⊢
                clear k2 HB HRX
                by_cases hij : i = j
                · subst hij
                  have HL2 : Hid (∀ j', j' < i + 1 → PairOk ps i j') := fun j' hj' q => by
                    by_cases e : j' = i
                    · exact absurd e.symm q
                    · exact HL.out j' (by omega) q
                  have HR8 : Hid (Row w8 X x.o.arr 39) := rX8
                  clear k1 rX8
                  go_wp2
                  go_roundw
                  case rel => exact ⟨i + 1, by go_num, by omega, HB8.out, HR8.out, HL2.out⟩
                  case measure => simp [intOf]; omega
                · have hij' : ¬ (i : Int) = (j : Int) := by omega
                  have hbne : ((i : Int) != (j : Int)) = true := by simp [hij']
                  have gx0 : w8.cell? ⟨X, 0, none⟩ = some (.int .u32 x.p.st) := row_at rX8 0 _ rfl; have gx1 : w8.cell? ⟨X, 1, none⟩ = some (.int .u32 x.p.co) := row_at rX8 1 _ rfl; have gx2 : w8.cell? ⟨X, 2, none⟩ = some (.bool x.p.dn) := row_at rX8 2 _ rfl; have gx3 : w8.cell? ⟨X, 3, none⟩ = some (.slice x.r.a x.r.n x.r.c) := row_at rX8 3 _ rfl; have gx4 : w8.cell? ⟨X, 4, none⟩ = some (.slice x.w.a x.w.n x.w.c) := row_at rX8 4 _ rfl
                  have HNX : Hid (PairOk ps i j → ∀ j', j' < j + 1 → PairOk ps i j') := fun q j' hj' => by
                    by_cases e : j' = j
                    · rw [e]; exact q
                    · exact HL.out j' (by omega)
                  have hc1 := rwrites_any x.o w8
                  have hc2 : ∀ w9, Below w8.heap.size w8 w9 → Calls Try.prog 25 #[.agg y.o.arr] w9 fun e w' => e = .returned (.bool y.o.com) ∧ Below w9.heap.size w9 w' := fun w9 _ => rwrites_any y.o w9
                  have HC2 : Hid _ := hc2
                  have HK9 : Hid (∀ w9, Below w8.heap.size w8 w9 → Row w9 X x.o.arr 39 ∧ Row w9 Y y.o.arr 39 ∧ Below w.heap.size w w9) := fun w9 hb9 => ⟨rX8.below hb9 rX8.lt, k1.below hb9 k1.lt, below_trans HB8.out hb9⟩
                  rw [COMX.out] at hc1
                  rw [HY1.out] at HC2
                  clear hc2
                  obtain ⟨cy, HCY⟩ : ∃ cy, Hid (y.p.com = cy) := ⟨_, rfl⟩
                  rw [HCY.out] at HC2
                  clear k1
                  have tl1 : Hid (1 = 1) := rfl
                  have tl2 : Hid (1 = 1) := rfl
                  cases cy with
                  | false =>
                    have HL2 := HNX.out (fun _ x' y' q1 q2 q3 q4 => by
                      rw [HY.out] at q2; injection q2 with q2; subst q2
                      rw [HCY.out] at q4; cases q4)
                    have HL3 : Hid (∀ j', j' < j + 1 → PairOk ps i j') := HL2
                    clear HL2
                    go_wp2_with (first | (have hh := hc1; clear hh; go_at_call 25; refine hc1.mono ?_; clear hc1 gx0 gx1 gx2 gx3 gx4; rintro e w9 ⟨he, hb9⟩; obtain rfl := he; obtain ⟨z1, z2, z3⟩ := HK9.out _ hb9; have hcy := HC2.out w9 hb9; have gy0 : w9.cell? ⟨Y, 0, none⟩ = some (.int .u32 y.p.st) := row_at z2 0 _ rfl; have gy1 : w9.cell? ⟨Y, 1, none⟩ = some (.int .u32 y.p.co) := row_at z2 1 _ rfl; have gy2 : w9.cell? ⟨Y, 2, none⟩ = some (.bool y.p.dn) := row_at z2 2 _ rfl; have gy3 : w9.cell? ⟨Y, 3, none⟩ = some (.slice y.r.a y.r.n y.r.c) := row_at z2 3 _ rfl; have gy4 : w9.cell? ⟨Y, 4, none⟩ = some (.slice y.w.a y.w.n y.w.c) := row_at z2 4 _ rfl; clear z2) | (go_at_call 25; refine hcy.mono ?_; clear hcy gy0 gy1 gy2 gy3 gy4; rintro e w10 ⟨he, hb10⟩; obtain rfl := he; obtain ⟨y1, y2, y3⟩ := HK9.out _ (below_trans hb9 hb10); clear z1 z3; have f1 : w10.cell? ⟨X, 1, none⟩ = some (.int .u32 x.p.co) := row_at y1 1 _ rfl; have f2 : w10.cell? ⟨Y, 1, none⟩ = some (.int .u32 y.p.co) := row_at y2 1 _ rfl))
                    go_roundw
                    case rel => exact ⟨j + 1, by go_num, by omega, y3, y1, HL3.out⟩
                    case measure => simp [intOf]; omega
                  | true =>
                    by_cases hco : x.p.co = y.p.co
                    · have HNF : Hid (∀ w', Below w.heap.size w w' → PP (.returned (.tuple #[.int .u8 0, .bool false])) w') := HNO.out (fun q => q.2 i (by rw [HN.out]; exact hin) j (by rw [HN.out]; exact hjn) hij x y HX.out HY.out HCX.out HCY.out hco)
                      have HCO : Hid (x.p.co = y.p.co) := hco
                      clear hco
                      go_wp2_with (first | (have hh := hc1; clear hh; go_at_call 25; refine hc1.mono ?_; clear hc1 gx0 gx1 gx2 gx3 gx4; rintro e w9 ⟨he, hb9⟩; obtain rfl := he; obtain ⟨z1, z2, z3⟩ := HK9.out _ hb9; have hcy := HC2.out w9 hb9; have gy0 : w9.cell? ⟨Y, 0, none⟩ = some (.int .u32 y.p.st) := row_at z2 0 _ rfl; have gy1 : w9.cell? ⟨Y, 1, none⟩ = some (.int .u32 y.p.co) := row_at z2 1 _ rfl; have gy2 : w9.cell? ⟨Y, 2, none⟩ = some (.bool y.p.dn) := row_at z2 2 _ rfl; have gy3 : w9.cell? ⟨Y, 3, none⟩ = some (.slice y.r.a y.r.n y.r.c) := row_at z2 3 _ rfl; have gy4 : w9.cell? ⟨Y, 4, none⟩ = some (.slice y.w.a y.w.n y.w.c) := row_at z2 4 _ rfl; clear z2) | (go_at_call 25; refine hcy.mono ?_; clear hcy gy0 gy1 gy2 gy3 gy4; rintro e w10 ⟨he, hb10⟩; obtain rfl := he; obtain ⟨y1, y2, y3⟩ := HK9.out _ (below_trans hb9 hb10); clear z1 z3; have f1 : w10.cell? ⟨X, 1, none⟩ = some (.int .u32 x.p.co) := row_at y1 1 _ rfl; have f2 : w10.cell? ⟨Y, 1, none⟩ = some (.int .u32 x.p.co) := (by rw [HCO.out]; exact row_at y2 1 _ rfl)))
                      exact HNF.out _ y3
                    · have HL2 := HNX.out (fun _ x' y' q1 q2 q3 q4 => by
                        rw [HX.out] at q1; injection q1 with q1; subst q1
                        rw [HY.out] at q2; injection q2 with q2; subst q2
                        exact hco)
                      have HL3 : Hid (∀ j', j' < j + 1 → PairOk ps i j') := HL2
                      clear HL2
                      go_wp2_with (first | (have hh := hc1; clear hh; go_at_call 25; refine hc1.mono ?_; clear hc1 gx0 gx1 gx2 gx3 gx4; rintro e w9 ⟨he, hb9⟩; obtain rfl := he; obtain ⟨z1, z2, z3⟩ := HK9.out _ hb9; have hcy := HC2.out w9 hb9; have gy0 : w9.cell? ⟨Y, 0, none⟩ = some (.int .u32 y.p.st) := row_at z2 0 _ rfl; have gy1 : w9.cell? ⟨Y, 1, none⟩ = some (.int .u32 y.p.co) := row_at z2 1 _ rfl; have gy2 : w9.cell? ⟨Y, 2, none⟩ = some (.bool y.p.dn) := row_at z2 2 _ rfl; have gy3 : w9.cell? ⟨Y, 3, none⟩ = some (.slice y.r.a y.r.n y.r.c) := row_at z2 3 _ rfl; have gy4 : w9.cell? ⟨Y, 4, none⟩ = some (.slice y.w.a y.w.n y.w.c) := row_at z2 4 _ rfl; clear z2) | (go_at_call 25; refine hcy.mono ?_; clear hcy gy0 gy1 gy2 gy3 gy4; rintro e w10 ⟨he, hb10⟩; obtain rfl := he; obtain ⟨y1, y2, y3⟩ := HK9.out _ (below_trans hb9 hb10); clear z1 z3; have f1 : w10.cell? ⟨X, 1, none⟩ = some (.int .u32 x.p.co) := row_at y1 1 _ rfl; have f2 : w10.cell? ⟨Y, 1, none⟩ = some (.int .u32 y.p.co) := row_at y2 1 _ rfl))
                      go_roundw
                      case rel => exact ⟨j + 1, by go_num, by omega, y3, y1, HL3.out⟩
                      case measure => simp [intOf]; omega
              · have hjn' : ¬ (j : Int) < (n : Int) := by omega
                obtain rfl : j = n := by omega
                clear rX
                have HB : Hid (Below w.heap.size w wz) := hb
                clear hb
                go_wp2
                go_roundw
                case rel => exact ⟨i + 1, by go_num, by omega, HB.out, HX1.out, fun i' hi' j' hj' => by
                  by_cases e : i' = i
                  · rw [e]; exact HL.out j' hj'
                  · exact HPI.out i' (by omega) j' hj'⟩
                case measure => simp [intOf]; omega
      · have hin' : ¬ (i : Int) < (n : Int) := by omega
        obtain rfl : i = n := by omega
        have HHI : Hid (HisR ps) := ⟨fun x hx => HX0.out x (by rw [List.take_of_length_le (by rw [HN.out]; exact Nat.le_refl _)]; exact hx), fun i' hi' j' hj' => HPI.out i' (by rw [← HN.out]; exact hi') j' (by rw [← HN.out]; exact hj')⟩
        have HB : Hid (Below w.heap.size w wr) := hb
        clear hb
        go_wp2_with fail
        go_meet
        case rel => exact ⟨HHI.out, HB.out⟩
  case rest =>
    rename World => wA
    obtain ⟨hhis, hb⟩ := hcut
    have HHI : Hid (HisR ps) := hhis
    clear hhis
    have o0 : OutB (∃ i', i' < 0 ∧ AboAt ps i') (∃ i', i' < 0 ∧ CirAt ps i') (∃ i', i' < 0 ∧ ∃ k, k < n ∧ IntAt ps i' k) (∃ i', i' < 0 ∧ MisAt ps i') 0 := OutB.zero.congr ex_zero.symm ex_zero.symm ex_zero.symm ex_zero.symm
    go_upto_region 15 with fail
    go_loopw [8, 64] (fun p q wr => ∃ (i : Nat) (o : Int), p = .int .u8 o ∧ q = .int .i64 (i : Int) ∧ i ≤ n ∧ Below w.heap.size w wr ∧ OutB (∃ i', i' < i ∧ AboAt ps i') (∃ i', i' < i ∧ CirAt ps i') (∃ i', i' < i ∧ ∃ k, k < n ∧ IntAt ps i' k) (∃ i', i' < i ∧ MisAt ps i') o) (fun _ q _ => 1001 - (intOf q).toNat)
    case atStart => exact ⟨0, 0, rfl, rfl, Nat.zero_le _, hb, o0⟩
    case round =>
      clear o0 hb
      rename World => wr
      obtain ⟨i, o, rfl, rfl, hi, hb, hO⟩ := hrel
      have HO0 : Hid (OutB (∃ i', i' < i ∧ AboAt ps i') (∃ i', i' < i ∧ CirAt ps i') (∃ i', i' < i ∧ ∃ k, k < n ∧ IntAt ps i' k) (∃ i', i' < i ∧ MisAt ps i') o) := hO
      clear hO
      by_cases hin : i < n
      · have hin' : (i : Int) < (n : Int) := by omega
        have hi0 : (0 : Int) ≤ (i : Int) := by omega
        obtain ⟨a, x, rfl, hx, hcell⟩ := HCS.out i hin
        have hcw : ∀ q u, x.o.cells[q]? = some u → wr.cell? ((a.add (i * 5)).add q) = some u := fun q u hq => cell_keep (hcell q u hq) hb
        have HX : Hid (ps[i]? = some x) := hx
        clear hx hcell
        have tl : Hid (1 = 1) := rfl
        have q1 : Row (wr.alloc (.cells Pa.O.zero.arr 39)) wr.heap.size Pa.O.zero.arr 39 := Row.new _ _ _
        obtain ⟨k1, k2⟩ := copied wr x.o
        have HB : Hid (Below w.heap.size w wr) := hb
        clear hb
        go_upto_region 17 with (first
          | (have hh := tl; clear hh tl; refine wpList_load_any rfl 39 (.tmp 67) rfl (a.add (i * 5)) rfl x.o.cells _ hcw Try.underlying39 rfl Pa.size39 ?_)
          | (refine store_cells rfl 39 (.tmp 10) (.tmp 68) rfl wr.heap.size x.o.arr rfl rfl 39 _ q1 5 Pa.size39 rfl rfl x.o.arr_one ?_))
        clear q1 hcw
        generalize (wr.alloc (.cells Pa.O.zero.arr 39)).setRow wr.heap.size x.o.arr = w5 at k1 k2 ⊢
        have HB5 : Hid (Below w.heap.size w w5) := below_trans HB.out k2
        generalize wr.heap.size = X at k1 ⊢
        clear k2 HB
        have hre := reachd_any (HH.out.keep HB5.out) HPS.out i (by rw [HN.out]; exact hin) false
        rw [show ReachD w5 ps false i = fun e w' => ReachD w5 ps false i e w' from rfl] at hre
        have HRE : Hid (∀ e w', ReachD w5 ps false i e w' → ∃ (cb : Nat) (bs : List Bool), e = .returned (.slice (some ⟨cb, 0, none⟩) n n) ∧ Row w' cb (bs.map Value.bool).toArray 4 ∧ bs.length = n ∧ (bs[i]? = some true ↔ CirAt ps i) ∧ Below w5.heap.size w5 w') := fun e w' ⟨cb, bs, q1, q2, q3, q4, q5, _⟩ => by
          rw [HN.out] at q1 q3
          exact ⟨cb, bs, q1, q2, q3, q4 i (by rw [HN.out]; exact hin), q5⟩
        have HK1 : Hid (Row w5 X x.o.arr 39) := k1
        clear k1
        generalize ReachD w5 ps false i = RR at hre HRE
        go_upto_region 18 with (go_at_call 26; refine hre.mono ?_; clear hre; intro e w6 hq; obtain ⟨cb, bs, he, rB, hlb, hcir, hb56⟩ := HRE.out e w6 hq; obtain rfl := he; clear hq)
        have rX6 := HK1.out.below hb56 HK1.out.lt
        have hb6 := below_trans HB5.out hb56
        obtain ⟨bc, hbc⟩ : ∃ bc, bs[i]? = some bc := ⟨_, List.getElem?_eq_getElem (by rw [hlb]; exact hin)⟩
        have cB : w6.cell? ⟨cb, i, none⟩ = some (.bool bc) := by
          rw [cell_of_row _ _ _ _ _ _ rB, List.getElem?_toArray, List.getElem?_map, hbc]; rfl
        have HCIR : Hid (bc = true ↔ CirAt ps i) := by
          show _ ↔ _
          rw [← hcir, hbc]; simp
        have HB6 : Hid (Below w.heap.size w w6) := hb6
        have HRX6 : Hid (Row w6 X x.o.arr 39) := rX6
        clear hb56 rB hlb hcir hbc HRE HK1 hb6 rX6 HB5
        go_upto_if 75 with fail
        clear cB
        go_cut [8] from 76 to 77 (fun p wx => ∃ o : Int, p = .int .u8 o ∧ Below w.heap.size w wx ∧ Row wx X x.o.arr 39 ∧ OutB (∃ i', i' < i ∧ AboAt ps i') (∃ i', i' < (i + 1) ∧ CirAt ps i') (∃ i', i' < i ∧ ∃ k, k < n ∧ IntAt ps i' k) (∃ i', i' < i ∧ MisAt ps i') o)
        case first =>
          repeat (rename ∀ (a : Act) (w : World), Code.wp Try.prog _ _ a w → _ => h0; clear h0)
          cases bc with
          | true =>
            have HC1 : Hid (CirAt ps i) := HCIR.out.1 rfl
            clear HCIR
            go_wp2_with fail
            go_meet
            case rel => exact ⟨_, rfl, HB6.out, HRX6.out, HO0.out.c (ex_succ.2 (Or.inr HC1.out))⟩
          | false =>
            have HC1 : Hid (¬ CirAt ps i) := fun q => by have := HCIR.out.2 q; cases this
            clear HCIR
            go_wp2_with fail
            go_meet
            case rel => exact ⟨o, rfl, HB6.out, HRX6.out, HO0.out.congr Iff.rfl (ex_succ.trans (or_no HC1.out)).symm Iff.rfl Iff.rfl⟩
        case rest =>
          clear HO0 HCIR HB6 HRX6
          rename World => w6
          obtain ⟨o, rfl, hb6, rX6, hO⟩ := hcut
          go_upto_block 6 with fail
          go_cut [8] from 80 to 96 (fun p wx => ∃ o : Int, p = .int .u8 o ∧ Below w.heap.size w wx ∧ Row wx X x.o.arr 39 ∧ OutB (∃ i', i' < i ∧ AboAt ps i') (∃ i', i' < (i + 1) ∧ CirAt ps i') (∃ i', i' < (i + 1) ∧ ∃ k, k < n ∧ IntAt ps i' k) (∃ i', i' < i ∧ MisAt ps i') o)
          case first =>
            repeat (rename ∀ (a : Act) (w : World), Code.wp Try.prog _ _ a w → _ => h0; clear h0)
            go_wp2_with fail
            go_loopw [8, 80] (fun p q wz => ∃ (k : Nat) (o : Int), p = .int .u8 o ∧ q = .int .i64 (k : Int) ∧ k ≤ n ∧ Below w.heap.size w wz ∧ Row wz X x.o.arr 39 ∧ OutB (∃ i', i' < i ∧ AboAt ps i') (∃ i', i' < (i + 1) ∧ CirAt ps i') ((∃ i', i' < i ∧ ∃ k, k < n ∧ IntAt ps i' k) ∨ ∃ k', k' < k ∧ IntAt ps i k') (∃ i', i' < i ∧ MisAt ps i') o) (fun _ q _ => 1001 - (intOf q).toNat)
            case atStart => exact ⟨0, o, rfl, rfl, Nat.zero_le _, hb6, rX6, hO.congr Iff.rfl Iff.rfl ⟨Or.inl, fun q => by rcases q with q | ⟨_, q, _⟩; exact q; omega⟩ Iff.rfl⟩
            case round =>
              clear hO hb6 rX6
              rename World => wz
              obtain ⟨k, o, rfl, rfl, hk, hb, rX, hO⟩ := hrel
              have HO : Hid (OutB (∃ i', i' < i ∧ AboAt ps i') (∃ i', i' < (i + 1) ∧ CirAt ps i') ((∃ i', i' < i ∧ ∃ k, k < n ∧ IntAt ps i' k) ∨ ∃ k', k' < k ∧ IntAt ps i k') (∃ i', i' < i ∧ MisAt ps i') o) := hO
              have HBW : Hid (Below w.heap.size w wz) := hb
              have HRX : Hid (Row wz X x.o.arr 39) := rX
              clear hO rX
              by_cases hkn : k < n
              · have hkn' : (k : Int) < (n : Int) := by omega
                have hk0 : (0 : Int) ≤ (k : Int) := by omega
                have hde := depends_any (HH.out.keep hb) (by have := HPS.out; omega) i k (by rw [HN.out]; exact hin) (by rw [HN.out]; exact hkn)
                have HAH : Hid (∀ w5, Below wz.heap.size wz w5 → Calls Try.prog 28 #[.slice (some a) n cap, .int .i64 (i : Int), .int .i64 (k : Int)] w5 fun e w' => Says w5 (AheR ps i k) e w') := fun w5 hb5 => by
                  have := ahead_any ((HH.out.keep HBW.out).keep hb5) (by have := HPS.out; omega) i k (by rw [HN.out]; exact hin) (by rw [HN.out]; exact hkn)
                  exact this
                clear hb
                have HK : Hid (∀ o', OutB (∃ i', i' < i ∧ AboAt ps i') (∃ i', i' < (i + 1) ∧ CirAt ps i') (((∃ i', i' < i ∧ ∃ k, k < n ∧ IntAt ps i' k) ∨ ∃ k', k' < k ∧ IntAt ps i k') ∨ IntAt ps i k) (∃ i', i' < i ∧ MisAt ps i') o' → OutB (∃ i', i' < i ∧ AboAt ps i') (∃ i', i' < (i + 1) ∧ CirAt ps i') ((∃ i', i' < i ∧ ∃ k, k < n ∧ IntAt ps i' k) ∨ ∃ k', k' < k + 1 ∧ IntAt ps i k') (∃ i', i' < i ∧ MisAt ps i') o') := fun o' q => q.congr Iff.rfl Iff.rfl (by rw [ex_succ, or_assoc]) Iff.rfl
                by_cases hD : DepR ps i k
                · have hcw := Says.calls_yes hde hD
                  by_cases hA : AheR ps i k
                  · have HO2 : Hid (OutB (∃ i', i' < i ∧ AboAt ps i') (∃ i', i' < (i + 1) ∧ CirAt ps i') ((∃ i', i' < i ∧ ∃ k, k < n ∧ IntAt ps i' k) ∨ ∃ k', k' < k + 1 ∧ IntAt ps i k') (∃ i', i' < i ∧ MisAt ps i') o) := HK.out o (HO.out.congr Iff.rfl Iff.rfl ⟨Or.inl, fun q => by rcases q with q | q; exact q; exact absurd hA q.2⟩ Iff.rfl)
                    replace HAH : Hid (∀ w5, Below wz.heap.size wz w5 → Calls Try.prog 28 #[.slice (some a) n cap, .int .i64 (i : Int), .int .i64 (k : Int)] w5 fun e w' => e = .returned (.bool true) ∧ Below w5.heap.size w5 w') := fun w5 hb5 => Says.calls_yes (HAH.out w5 hb5) hA
                    clear hde hD hA HK
                    go_wp2_with (first
                      | (go_at_call 27; refine hcw.mono ?_; clear hcw; rintro e w5 ⟨he, hb5⟩; obtain rfl := he; have hcw2 := HAH.out w5 hb5)
                      | (go_at_call 28; refine hcw2.mono ?_; clear hcw2; rintro e w6 ⟨he, hb56⟩; obtain rfl := he; have hb6 := below_trans hb5 hb56))
                    go_roundw
                    case rel => exact ⟨k + 1, o, rfl, by go_num, by omega, below_trans HBW.out hb6, HRX.out.below hb6 HRX.out.lt, HO2.out⟩
                    case measure => simp [intOf]; omega
                  · have HO2 : Hid (OutB (∃ i', i' < i ∧ AboAt ps i') (∃ i', i' < (i + 1) ∧ CirAt ps i') ((∃ i', i' < i ∧ ∃ k, k < n ∧ IntAt ps i' k) ∨ ∃ k', k' < k + 1 ∧ IntAt ps i k') (∃ i', i' < i ∧ MisAt ps i') (bits BinOp.or IntKind.u8 o 4)) := HK.out _ (HO.out.i (Or.inr ⟨hD, hA⟩))
                    replace HAH : Hid (∀ w5, Below wz.heap.size wz w5 → Calls Try.prog 28 #[.slice (some a) n cap, .int .i64 (i : Int), .int .i64 (k : Int)] w5 fun e w' => e = .returned (.bool false) ∧ Below w5.heap.size w5 w') := fun w5 hb5 => Says.calls_no (HAH.out w5 hb5) hA
                    clear hde hD hA HK
                    go_wp2_with (first
                      | (go_at_call 27; refine hcw.mono ?_; clear hcw; rintro e w5 ⟨he, hb5⟩; obtain rfl := he; have hcw2 := HAH.out w5 hb5)
                      | (go_at_call 28; refine hcw2.mono ?_; clear hcw2; rintro e w6 ⟨he, hb56⟩; obtain rfl := he; have hb6 := below_trans hb5 hb56))
                    go_roundw
                    case rel => exact ⟨k + 1, _, rfl, by go_num, by omega, below_trans HBW.out hb6, HRX.out.below hb6 HRX.out.lt, HO2.out⟩
                    case measure => simp [intOf]; omega
                · have hcw := Says.calls_no hde hD
                  have HO2 : Hid (OutB (∃ i', i' < i ∧ AboAt ps i') (∃ i', i' < (i + 1) ∧ CirAt ps i') ((∃ i', i' < i ∧ ∃ k, k < n ∧ IntAt ps i' k) ∨ ∃ k', k' < k + 1 ∧ IntAt ps i k') (∃ i', i' < i ∧ MisAt ps i') o) := HK.out o (HO.out.congr Iff.rfl Iff.rfl ⟨Or.inl, fun q => by rcases q with q | q; exact q; exact absurd q.1 hD⟩ Iff.rfl)
                  clear hde hD HK HAH
                  go_wp2_with (go_at_call 27; refine hcw.mono ?_; clear hcw; rintro e w6 ⟨he, hb6⟩; obtain rfl := he)
                  go_roundw
                  case rel => exact ⟨k + 1, o, rfl, by go_num, by omega, below_trans HBW.out hb6, HRX.out.below hb6 HRX.out.lt, HO2.out⟩
                  case measure => simp [intOf]; omega
              · have hkn' : ¬ (k : Int) < (n : Int) := by omega
                obtain rfl : k = n := by omega
                clear hb
                go_wp2_with fail
                go_meet
                case rel => exact ⟨o, rfl, HBW.out, HRX.out, HO.out.congr Iff.rfl Iff.rfl ex_succ.symm Iff.rfl⟩
          case rest =>
            rename World => w7
            obtain ⟨o, rfl, hb7, rX7, hO⟩ := hcut
            have HO7 : Hid (OutB (∃ i', i' < i ∧ AboAt ps i') (∃ i', i' < (i + 1) ∧ CirAt ps i') (∃ i', i' < (i + 1) ∧ ∃ k, k < n ∧ IntAt ps i' k) (∃ i', i' < i ∧ MisAt ps i') o) := hO
            have f2 : w7.cell? ⟨X, 2, none⟩ = some (.bool x.p.dn) := row_at rX7 2 _ rfl
            have f3 : w7.cell? ⟨X, 3, none⟩ = some (.slice x.r.a x.r.n x.r.c) := row_at rX7 3 _ rfl
            obtain ⟨dn, HDN⟩ : ∃ dn, Hid (x.p.dn = dn) := ⟨_, rfl⟩
            rw [HDN.out] at f2
            clear hO rX7
            cases dn with
            | false =>
              have HO8 : Hid (OutB (∃ i', i' < (i + 1) ∧ AboAt ps i') (∃ i', i' < (i + 1) ∧ CirAt ps i') (∃ i', i' < (i + 1) ∧ ∃ k, k < n ∧ IntAt ps i' k) (∃ i', i' < (i + 1) ∧ MisAt ps i') o) := HO7.out.congr (ex_succ.trans (or_no (AboAt.no HX.out HDN.out))).symm Iff.rfl Iff.rfl (ex_succ.trans (or_no (MisAt.no HX.out HDN.out))).symm
              have HB7 : Hid (Below w.heap.size w w7) := hb7
              clear hb7
              go_wp2
              go_roundw
              case rel => exact ⟨i + 1, o, rfl, by go_num, by omega, HB7.out, HO8.out⟩
              case measure => simp [intOf]; omega
            | true =>
              obtain ⟨hrn, hsn⟩ := old_seen (HH.out.each x (List.mem_of_getElem? HX.out)).rs
              have h6r := (HH.out.fit x (List.mem_of_getElem? HX.out)).rl
              obtain ⟨ra, HRA⟩ : ∃ ra, Hid (x.r.a = ra) := ⟨_, rfl⟩
              obtain ⟨rn, HRN⟩ : ∃ rn, Hid (x.r.n = rn) := ⟨_, rfl⟩
              obtain ⟨rc, HRC⟩ : ∃ rc, Hid (x.r.c = rc) := ⟨_, rfl⟩
              rw [HRA.out, HRN.out, HRC.out] at f3
              have HSN : Hid (∀ (k : Nat) v, x.p.rs[k]? = some v → ∃ b, ra = some b ∧ ∀ q u, ([.int .u16 v.1, .int .u32 v.2] : List Value)[q]? = some u → w.cell? ((b.add (k * 2)).add q) = some u) := by rw [← HRA.out]; exact hsn
              replace HRN : Hid (rn = x.p.rs.length) := by show _ = _; rw [← HRN.out]; exact hrn
              have hrn9 : rn ≤ 1000 := by rw [HRN.out]; exact h6r
              have o5 : OutB ((∃ i', i' < i ∧ AboAt ps i') ∨ ∃ v ∈ x.p.rs.take 0, AboV ps v) (∃ i', i' < (i + 1) ∧ CirAt ps i') (∃ i', i' < (i + 1) ∧ ∃ k, k < n ∧ IntAt ps i' k) ((∃ i', i' < i ∧ MisAt ps i') ∨ ∃ v ∈ x.p.rs.take 0, ∃ k, k < n ∧ MisV ps i v k) o := HO7.out.congr ⟨Or.inl, fun q => by rcases q with q | ⟨v, q, _⟩; exact q; simp at q⟩ Iff.rfl Iff.rfl ⟨Or.inl, fun q => by rcases q with q | ⟨v, q, _⟩; exact q; simp at q⟩
              clear hrn hsn h6r HO7
              go_upto_region 28 with fail
              clear f2 f3
              go_loopw [8, 103] (fun p q wy => ∃ (j : Nat) (o : Int), p = .int .u8 o ∧ q = .int .i64 (j : Int) ∧ j ≤ rn ∧ Below w.heap.size w wy ∧ OutB ((∃ i', i' < i ∧ AboAt ps i') ∨ ∃ v ∈ x.p.rs.take j, AboV ps v) (∃ i', i' < (i + 1) ∧ CirAt ps i') (∃ i', i' < (i + 1) ∧ ∃ k, k < n ∧ IntAt ps i' k) ((∃ i', i' < i ∧ MisAt ps i') ∨ ∃ v ∈ x.p.rs.take j, ∃ k, k < n ∧ MisV ps i v k) o) (fun _ q _ => 1001 - (intOf q).toNat)
              case atStart => exact ⟨0, o, rfl, rfl, Nat.zero_le _, hb7, o5⟩
              case round =>
                clear o5 hb7
                rename World => wy
                obtain ⟨j, o, rfl, rfl, hj, hb, hO⟩ := hrel
                have HO : Hid (OutB ((∃ i', i' < i ∧ AboAt ps i') ∨ ∃ v ∈ x.p.rs.take j, AboV ps v) (∃ i', i' < (i + 1) ∧ CirAt ps i') (∃ i', i' < (i + 1) ∧ ∃ k, k < n ∧ IntAt ps i' k) ((∃ i', i' < i ∧ MisAt ps i') ∨ ∃ v ∈ x.p.rs.take j, ∃ k, k < n ∧ MisV ps i v k) o) := hO
                have HBY : Hid (Below w.heap.size w wy) := hb
                clear hO
                by_cases hjn : j < rn
                · have hjn' : (j : Int) < (rn : Int) := by omega
                  have hj0 : (0 : Int) ≤ (j : Int) := by omega
                  obtain ⟨⟨pg, ts⟩, hv⟩ : ∃ v, x.p.rs[j]? = some v := ⟨_, List.getElem?_eq_getElem (by rw [← HRN.out]; exact hjn)⟩
                  obtain ⟨b, rfl, hcell⟩ := HSN.out j _ hv
                  have hcw : ∀ q u, (Sn.O.cells ⟨pg, ts⟩)[q]? = some u → wy.cell? ((b.add (j * 2)).add q) = some u := fun q x hq => cell_keep (hcell q x hq) hb
                  have HV : Hid (x.p.rs[j]? = some (pg, ts)) := hv
                  clear hv hcell hb
                  have tl : Hid (1 = 1) := rfl
                  have q1 : Row (wy.alloc (.cells Sn.O.zero.arr 46)) wy.heap.size Sn.O.zero.arr 46 := Row.new _ _ _
                  obtain ⟨k1, k2⟩ := copied46 wy (⟨pg, ts⟩ : Sn.O)
                  go_upto_region 30 with (first
                    | (have hh := tl; clear hh tl; refine wpList_load_any rfl 46 (.tmp 105) rfl (b.add (j * 2)) rfl (Sn.O.cells ⟨pg, ts⟩) _ hcw Try.underlying46 rfl Sn.size46 ?_)
                    | (refine store_cells rfl 46 (.tmp 14) (.tmp 106) rfl wy.heap.size (Sn.O.arr ⟨pg, ts⟩) rfl rfl 46 _ q1 2 Sn.size46 rfl rfl (Sn.O.arr_one _) ?_))
                  clear q1 hcw
                  generalize (wy.alloc (.cells Sn.O.zero.arr 46)).setRow wy.heap.size (Sn.O.arr ⟨pg, ts⟩) = w8 at k1 k2 ⊢
                  have hb8 := below_trans HBY.out k2
                  have rZ : Row w8 wy.heap.size #[.int .u16 pg, .int .u32 ts] 46 := k1
                  have f1 : w8.cell? ⟨wy.heap.size, 1, none⟩ = some (.int .u32 ts) := row_at rZ 1 _ rfl
                  generalize wy.heap.size = Z at rZ f1 ⊢
                  clear k1 k2 HBY
                  go_upto_block 10 with fail
                  clear f1
                  generalize HT0e : (ts == 0) = t0
                  have HT0 : Hid (t0 = true ↔ ts = 0) := by show _ ↔ _; rw [← HT0e]; simp
                  clear HT0e
                  go_cut [8, 15] from 112 to 162 (fun p th wx => ∃ (o : Int) (bt : Bool), p = .int .u8 o ∧ th = .bool bt ∧ (bt = true ↔ (ts = 0 ∨ ComR ps (pg, ts))) ∧ Below w.heap.size w wx ∧ OutB ((∃ i', i' < i ∧ AboAt ps i') ∨ ∃ v ∈ x.p.rs.take j, AboV ps v) (∃ i', i' < (i + 1) ∧ CirAt ps i') (∃ i', i' < (i + 1) ∧ ∃ k, k < n ∧ IntAt ps i' k) (((∃ i', i' < i ∧ MisAt ps i') ∨ ∃ v ∈ x.p.rs.take j, ∃ k, k < n ∧ MisV ps i v k) ∨ ∃ k', k' < n ∧ MisV ps i (pg, ts) k') o)
                  case first =>
                    repeat (rename ∀ (a : Act) (w : World), Code.wp Try.prog _ _ a w → _ => h0; clear h0)
                    go_wp2_with fail
                    go_loopw [8, 15, 112] (fun p th q wz => ∃ (k : Nat) (o : Int) (bt : Bool), p = .int .u8 o ∧ th = .bool bt ∧ q = .int .i64 (k : Int) ∧ k ≤ n ∧ (bt = true ↔ (ts = 0 ∨ ∃ y' ∈ ps.take k, (WroR y' pg ∧ y'.p.co = ts))) ∧ Row wz Z #[.int .u16 pg, .int .u32 ts] 46 ∧ Below w.heap.size w wz ∧ OutB ((∃ i', i' < i ∧ AboAt ps i') ∨ ∃ v ∈ x.p.rs.take j, AboV ps v) (∃ i', i' < (i + 1) ∧ CirAt ps i') (∃ i', i' < (i + 1) ∧ ∃ k, k < n ∧ IntAt ps i' k) (((∃ i', i' < i ∧ MisAt ps i') ∨ ∃ v ∈ x.p.rs.take j, ∃ k, k < n ∧ MisV ps i v k) ∨ ∃ k', k' < k ∧ MisV ps i (pg, ts) k') o) (fun _ _ q _ => 1001 - (intOf q).toNat)
                    case atStart => exact ⟨0, o, _, rfl, rfl, rfl, Nat.zero_le _, HT0.out.trans (or_no (fun ⟨_, q, _⟩ => by simp at q)).symm, rZ, hb8, HO.out.congr Iff.rfl Iff.rfl Iff.rfl (or_no (fun ⟨_, q, _⟩ => by omega)).symm⟩
                    case round =>
                      clear rZ hb8 HO HT0
                      rename World => wz
                      obtain ⟨k, o, bt, rfl, rfl, rfl, hk, hbt, rZ, hb, hO⟩ := hrel
                      have HBT : Hid (bt = true ↔ (ts = 0 ∨ ∃ y' ∈ ps.take k, (WroR y' pg ∧ y'.p.co = ts))) := hbt
                      have HO : Hid (OutB ((∃ i', i' < i ∧ AboAt ps i') ∨ ∃ v ∈ x.p.rs.take j, AboV ps v) (∃ i', i' < (i + 1) ∧ CirAt ps i') (∃ i', i' < (i + 1) ∧ ∃ k, k < n ∧ IntAt ps i' k) (((∃ i', i' < i ∧ MisAt ps i') ∨ ∃ v ∈ x.p.rs.take j, ∃ k, k < n ∧ MisV ps i v k) ∨ ∃ k', k' < k ∧ MisV ps i (pg, ts) k') o) := hO
                      have HBW : Hid (Below w.heap.size w wz) := hb
                      clear hbt hO
                      by_cases hkn : k < n
                      · have hkn' : (k : Int) < (n : Int) := by omega
                        have hk0 : (0 : Int) ≤ (k : Int) := by omega
                        obtain ⟨a', y, ha', hy, hcell⟩ := HCS.out k hkn
                        obtain rfl : a = a' := Option.some.inj ha'
                        have hcw : ∀ q u, y.o.cells[q]? = some u → wz.cell? ((a.add (k * 5)).add q) = some u := fun q u hq => cell_keep (hcell q u hq) hb
                        have HY : Hid (ps[k]? = some y) := hy
                        have HH1 : Hid (Held1 w y) := HH.out.each y (List.mem_of_getElem? hy)
                        have HWL : Hid (y.p.ws.length ≤ 1000) := (HH.out.fit y (List.mem_of_getElem? hy)).wl
                        clear hy hcell ha' hb
                        have tl : Hid (1 = 1) := rfl
                        have q1 : Row (wz.alloc (.cells Pa.O.zero.arr 39)) wz.heap.size Pa.O.zero.arr 39 := Row.new _ _ _
                        obtain ⟨k1, k2⟩ := copied wz y.o
                        have HRZ : Hid (Row wz Z #[.int .u16 pg, .int .u32 ts] 46) := rZ
                        clear rZ
                        go_upto_region 34 with (first
                          | (have hh := tl; clear hh tl; refine wpList_load_any rfl 39 (.tmp 115) rfl (a.add (k * 5)) rfl y.o.cells _ hcw Try.underlying39 rfl Pa.size39 ?_)
                          | (refine store_cells rfl 39 (.tmp 17) (.tmp 116) rfl wz.heap.size y.o.arr rfl rfl 39 _ q1 5 Pa.size39 rfl rfl y.o.arr_one ?_))
                        clear q1 hcw
                        generalize (wz.alloc (.cells Pa.O.zero.arr 39)).setRow wz.heap.size y.o.arr = w5 at k1 k2 ⊢
                        have HB5 : Hid (Below w.heap.size w w5) := below_trans HBW.out k2
                        have rZ5 := HRZ.out.below k2 HRZ.out.lt
                        generalize wz.heap.size = Y at k1 ⊢
                        clear k2 HRZ HBW
                        have HTK : Hid ((ts = 0 ∨ ∃ y' ∈ ps.take (k + 1), (WroR y' pg ∧ y'.p.co = ts)) ↔ ((ts = 0 ∨ ∃ y' ∈ ps.take k, (WroR y' pg ∧ y'.p.co = ts)) ∨ (WroR y pg ∧ y.p.co = ts))) := by show _ ↔ _; rw [ex_take HY.out, or_assoc]
                        try simp only [Act.put, nz0, nz1, nz2, nz3, nz4, nz5]
                        go_cut [15] from 117 to 130 (fun th wx => ∃ bt : Bool, th = .bool bt ∧ (bt = true ↔ (ts = 0 ∨ ∃ y' ∈ ps.take (k + 1), (WroR y' pg ∧ y'.p.co = ts))) ∧ Row wx Z #[.int .u16 pg, .int .u32 ts] 46 ∧ Below w.heap.size w wx)
                        case first =>
                          repeat (rename ∀ (a : Act) (w : World), Code.wp Try.prog _ _ a w → _ => h0; clear h0)
                          cases bt with
                          | true =>
                            have HR : Hid (true = true ↔ (ts = 0 ∨ ∃ y' ∈ ps.take (k + 1), (WroR y' pg ∧ y'.p.co = ts))) := ⟨fun _ => HTK.out.2 (Or.inl (HBT.out.1 rfl)), fun _ => rfl⟩
                            clear HBT HTK
                            go_wp2_with fail
                            go_meet
                            case rel => exact ⟨true, rfl, by first | exact HR.out | simpa using HR.out, rZ5, HB5.out⟩
                          | false =>
                            have HNT : Hid (¬ (ts = 0 ∨ ∃ y' ∈ ps.take k, (WroR y' pg ∧ y'.p.co = ts))) := fun q => by have := HBT.out.2 q; cases this
                            clear HBT
                            have hwr := wrote_any (w := w5) (h := y) (HH1.out.keep HB5.out) HWL.out pg
                            have HK : Hid (∀ w6, Below w5.heap.size w5 w6 → Row w6 Y y.o.arr 39 ∧ Row w6 Z #[.int .u16 pg, .int .u32 ts] 46 ∧ Below w.heap.size w w6) := fun w6 hb6 => ⟨k1.below hb6 k1.lt, rZ5.below hb6 rZ5.lt, below_trans HB5.out hb6⟩
                            have gy0 : w5.cell? ⟨Y, 0, none⟩ = some (.int .u32 y.p.st) := row_at k1 0 _ rfl; have gy1 : w5.cell? ⟨Y, 1, none⟩ = some (.int .u32 y.p.co) := row_at k1 1 _ rfl; have gy2 : w5.cell? ⟨Y, 2, none⟩ = some (.bool y.p.dn) := row_at k1 2 _ rfl; have gy3 : w5.cell? ⟨Y, 3, none⟩ = some (.slice y.r.a y.r.n y.r.c) := row_at k1 3 _ rfl; have gy4 : w5.cell? ⟨Y, 4, none⟩ = some (.slice y.w.a y.w.n y.w.c) := row_at k1 4 _ rfl
                            have z0 : w5.cell? ⟨Z, 0, none⟩ = some (.int .u16 pg) := row_at rZ5 0 _ rfl
                            clear k1 rZ5
                            by_cases hW : WroR y pg
                            · have hcw := Says.calls_yes hwr hW
                              by_cases hc : y.p.co = ts
                              · have HCO : Hid (y.p.co = ts) := hc
                                have HR : Hid ((ts = 0 ∨ ∃ y' ∈ ps.take (k + 1), (WroR y' pg ∧ y'.p.co = ts))) := HTK.out.2 (Or.inr ⟨hW, hc⟩)
                                clear hwr hW hc HTK HNT
                                go_wp2_with (go_at_call 29; refine hcw.mono ?_; clear hcw gy0 gy1 gy2 gy3 gy4 z0; rintro e w6 ⟨he, hb6⟩; obtain rfl := he; obtain ⟨y1, y2, y3⟩ := HK.out _ hb6; have f1 : w6.cell? ⟨Y, 1, none⟩ = some (.int .u32 ts) := (by rw [← HCO.out]; exact row_at y1 1 _ rfl); have f2 : w6.cell? ⟨Z, 1, none⟩ = some (.int .u32 ts) := row_at y2 1 _ rfl)
                                go_meet
                                case rel => exact ⟨true, rfl, ⟨fun _ => HR.out, fun _ => rfl⟩, y2, y3⟩
                              · have hbc : (y.p.co == ts) = false := by simp [hc]
                                have HR : Hid (¬ (ts = 0 ∨ ∃ y' ∈ ps.take (k + 1), (WroR y' pg ∧ y'.p.co = ts))) := fun q => by
                                  rcases HTK.out.1 q with q | q
                                  · exact HNT.out q
                                  · exact hc q.2
                                clear hwr hW HTK HNT
                                go_wp2_with (go_at_call 29; refine hcw.mono ?_; clear hcw gy0 gy1 gy2 gy3 gy4 z0; rintro e w6 ⟨he, hb6⟩; obtain rfl := he; obtain ⟨y1, y2, y3⟩ := HK.out _ hb6; have f1 : w6.cell? ⟨Y, 1, none⟩ = some (.int .u32 y.p.co) := row_at y1 1 _ rfl; have f2 : w6.cell? ⟨Z, 1, none⟩ = some (.int .u32 ts) := row_at y2 1 _ rfl)
                                go_meet
                                case rel => exact ⟨false, rfl, ⟨(fun q => by cases q), fun q => absurd q HR.out⟩, y2, y3⟩
                            · have hcw := Says.calls_no hwr hW
                              have HR : Hid (¬ (ts = 0 ∨ ∃ y' ∈ ps.take (k + 1), (WroR y' pg ∧ y'.p.co = ts))) := fun q => by
                                rcases HTK.out.1 q with q | q
                                · exact HNT.out q
                                · exact hW q.1
                              clear hwr hW HTK HNT
                              go_wp2_with (go_at_call 29; refine hcw.mono ?_; clear hcw gy0 gy1 gy2 gy3 gy4 z0; rintro e w6 ⟨he, hb6⟩; obtain rfl := he; obtain ⟨y1, y2, y3⟩ := HK.out _ hb6)
                              go_meet
                              case rel => exact ⟨false, rfl, ⟨(fun q => by cases q), fun q => absurd q HR.out⟩, y2, y3⟩
                        case rest =>
                          clear HBT HTK HH1 HWL HY HB5 rZ5 k1
                          rename World => wk
                          obtain ⟨bt, rfl, hbt, rZ, hb⟩ := hcut
                          have HBT : Hid (bt = true ↔ (ts = 0 ∨ ∃ y' ∈ ps.take (k + 1), (WroR y' pg ∧ y'.p.co = ts))) := hbt
                          clear hbt
                          have HRZ : Hid (Row wk Z #[.int .u16 pg, .int .u32 ts] 46) := rZ
                          have HB : Hid (Below w.heap.size w wk) := hb
                          clear rZ hb
                          go_upto_region 35 with fail
                          go_cut [142] from 131 to 141 (fun q wx => ∃ b2 : Bool, q = .bool b2 ∧ (b2 = true ↔ (k ≠ i ∧ FolR ps pg ts k)) ∧ Row wx Z #[.int .u16 pg, .int .u32 ts] 46 ∧ Below w.heap.size w wx)
                          case first =>
                            repeat (rename ∀ (a : Act) (w : World), Code.wp Try.prog _ _ a w → _ => h0; clear h0)
                            clear HBT HO
                            by_cases hki : k = i
                            · have HR : Hid (¬ (k ≠ i ∧ FolR ps pg ts k)) := fun q => q.1 hki
                              have hbne : ((k : Int) != (i : Int)) = false := by rw [hki]; simp
                              clear hki
                              go_wp2_with fail
                              go_meet
                              case rel => exact ⟨false, rfl, ⟨(fun q => by cases q), fun q => absurd q HR.out⟩, HRZ.out, HB.out⟩
                            · have hbne : ((k : Int) != (i : Int)) = true := by
                                have : ¬ (k : Int) = (i : Int) := by omega
                                simp [this]
                              have hfo := follows_any (HH.out.keep HB.out) (by have := HPS.out; omega) pg ts k (by rw [HN.out]; exact hkn)
                              have z0 : wk.cell? ⟨Z, 0, none⟩ = some (.int .u16 pg) := row_at HRZ.out 0 _ rfl
                              have z1 : wk.cell? ⟨Z, 1, none⟩ = some (.int .u32 ts) := row_at HRZ.out 1 _ rfl
                              by_cases hF : FolR ps pg ts k
                              · have hcw := Says.calls_yes hfo hF
                                have HR : Hid (k ≠ i ∧ FolR ps pg ts k) := ⟨hki, hF⟩
                                clear hfo hF hki
                                go_wp2_with (go_at_call 30; refine hcw.mono ?_; clear hcw; rintro e w6 ⟨he, hb6⟩; obtain rfl := he)
                                go_meet
                                case rel => exact ⟨true, rfl, ⟨fun _ => HR.out, fun _ => rfl⟩, HRZ.out.below hb6 HRZ.out.lt, below_trans HB.out hb6⟩
                              · have hcw := Says.calls_no hfo hF
                                have HR : Hid (¬ (k ≠ i ∧ FolR ps pg ts k)) := fun q => hF q.2
                                clear hfo hF hki
                                go_wp2_with (go_at_call 30; refine hcw.mono ?_; clear hcw; rintro e w6 ⟨he, hb6⟩; obtain rfl := he)
                                go_meet
                                case rel => exact ⟨false, rfl, ⟨(fun q => by cases q), fun q => absurd q HR.out⟩, HRZ.out.below hb6 HRZ.out.lt, below_trans HB.out hb6⟩
                          case rest =>
                            clear HRZ HB
                            rename World => wl
                            obtain ⟨b2, rfl, hb2, rZ, hb⟩ := hcut
                            have HK6 : Hid (∀ o', OutB ((∃ i', i' < i ∧ AboAt ps i') ∨ ∃ v ∈ x.p.rs.take j, AboV ps v) (∃ i', i' < (i + 1) ∧ CirAt ps i') (∃ i', i' < (i + 1) ∧ ∃ k, k < n ∧ IntAt ps i' k) ((((∃ i', i' < i ∧ MisAt ps i') ∨ ∃ v ∈ x.p.rs.take j, ∃ k, k < n ∧ MisV ps i v k) ∨ ∃ k', k' < k ∧ MisV ps i (pg, ts) k') ∨ MisV ps i (pg, ts) k) o' → OutB ((∃ i', i' < i ∧ AboAt ps i') ∨ ∃ v ∈ x.p.rs.take j, AboV ps v) (∃ i', i' < (i + 1) ∧ CirAt ps i') (∃ i', i' < (i + 1) ∧ ∃ k, k < n ∧ IntAt ps i' k) (((∃ i', i' < i ∧ MisAt ps i') ∨ ∃ v ∈ x.p.rs.take j, ∃ k, k < n ∧ MisV ps i v k) ∨ ∃ k', k' < (k + 1) ∧ MisV ps i (pg, ts) k') o') := fun o' q => q.congr Iff.rfl Iff.rfl Iff.rfl (by rw [ex_succ, or_assoc])
                            have HRZ : Hid (Row wl Z #[.int .u16 pg, .int .u32 ts] 46) := rZ
                            have HB : Hid (Below w.heap.size w wl) := hb
                            clear rZ hb
                            cases b2 with
                            | false =>
                              have HNM : Hid (¬ MisV ps i (pg, ts) k) := fun q => by have := hb2.2 ⟨q.1, q.2.1⟩; cases this
                              have HO2 : Hid (OutB ((∃ i', i' < i ∧ AboAt ps i') ∨ ∃ v ∈ x.p.rs.take j, AboV ps v) (∃ i', i' < (i + 1) ∧ CirAt ps i') (∃ i', i' < (i + 1) ∧ ∃ k, k < n ∧ IntAt ps i' k) (((∃ i', i' < i ∧ MisAt ps i') ∨ ∃ v ∈ x.p.rs.take j, ∃ k, k < n ∧ MisV ps i v k) ∨ ∃ k', k' < (k + 1) ∧ MisV ps i (pg, ts) k') o) := HK6.out o (HO.out.congr Iff.rfl Iff.rfl Iff.rfl (or_no HNM.out).symm)
                              clear hb2 HNM HK6 HO
                              go_wp2
                              go_roundw
                              case rel => exact ⟨k + 1, o, bt, rfl, rfl, by go_num, by omega, HBT.out, HRZ.out, HB.out, HO2.out⟩
                              case measure => simp [intOf]; omega
                            | true =>
                              have HF : Hid (k ≠ i ∧ FolR ps pg ts k) := hb2.1 rfl
                              clear hb2
                              have hre := reachd_any (HH.out.keep HB.out) HPS.out k (by rw [HN.out]; exact hkn) true
                              rw [show ReachD wl ps true k = fun e w' => ReachD wl ps true k e w' from rfl] at hre
                              have HRE : Hid (∀ e w', ReachD wl ps true k e w' → ∃ (cb : Nat) (bs : List Bool), e = .returned (.slice (some ⟨cb, 0, none⟩) n n) ∧ Row w' cb (bs.map Value.bool).toArray 4 ∧ bs.length = n ∧ (bs[i]? = some true ↔ TransGen (StR ps true) k i) ∧ Below wl.heap.size wl w') := fun e w' ⟨cb, bs, q1, q2, q3, q4, q5, _⟩ => by
                                rw [HN.out] at q1 q3
                                exact ⟨cb, bs, q1, q2, q3, q4 i (by rw [HN.out]; exact hin), q5⟩
                              generalize ReachD wl ps true k = RR at hre HRE
                              go_upto_region 37 with (go_at_call 26; refine hre.mono ?_; clear hre; intro e w6 hq; obtain ⟨cb, bs, he, rB, hlb, hrc, hb6⟩ := HRE.out e w6 hq; obtain rfl := he; clear hq)
                              obtain ⟨b3, hb3⟩ : ∃ b3, bs[i]? = some b3 := ⟨_, List.getElem?_eq_getElem (by rw [hlb]; exact hin)⟩
                              have cB : w6.cell? ⟨cb, i, none⟩ = some (.bool b3) := by
                                rw [cell_of_row _ _ _ _ _ _ rB, List.getElem?_toArray, List.getElem?_map, hb3]; rfl
                              have HRC : Hid (b3 = true ↔ TransGen (StR ps true) k i) := by
                                show _ ↔ _
                                rw [← hrc, hb3]; simp
                              have HRZ6 : Hid (Row w6 Z #[.int .u16 pg, .int .u32 ts] 46) := HRZ.out.below hb6 HRZ.out.lt
                              have HB6 : Hid (Below w.heap.size w w6) := below_trans HB.out hb6
                              clear rB hlb hrc hb3 hb6 HRE HRZ HB
                              go_cut [159] from 146 to 158 (fun q wx => ∃ b4 : Bool, q = .bool b4 ∧ (b4 = true ↔ (TransGen (StR ps true) k i ∧ (ts = 0 ∨ ComR ps (pg, ts)))) ∧ Row wx Z #[.int .u16 pg, .int .u32 ts] 46 ∧ Below w.heap.size w wx)
                              case first =>
                                repeat (rename ∀ (a : Act) (w : World), Code.wp Try.prog _ _ a w → _ => h0; clear h0)
                                clear HBT HO HK6 HF
                                cases b3 with
                                | false =>
                                  have HR : Hid (¬ (TransGen (StR ps true) k i ∧ (ts = 0 ∨ ComR ps (pg, ts)))) := fun q => by have := HRC.out.2 q.1; cases this
                                  clear HRC
                                  go_wp2_with fail
                                  go_meet
                                  case rel => exact ⟨false, rfl, ⟨(fun q => by cases q), fun q => absurd q HR.out⟩, HRZ6.out, HB6.out⟩
                                | true =>
                                  have HT : Hid (TransGen (StR ps true) k i) := HRC.out.1 rfl
                                  clear HRC
                                  by_cases hts : ts = 0
                                  · have HR : Hid (TransGen (StR ps true) k i ∧ (ts = 0 ∨ ComR ps (pg, ts))) := ⟨HT.out, Or.inl hts⟩
                                    have z1 : w6.cell? ⟨Z, 1, none⟩ = some (.int .u32 0) := by rw [← hts]; exact row_at HRZ6.out 1 _ rfl
                                    clear hts HT
                                    go_wp2_with fail
                                    go_meet
                                    case rel => exact ⟨true, rfl, ⟨fun _ => HR.out, fun _ => rfl⟩, HRZ6.out, HB6.out⟩
                                  · have z0 : w6.cell? ⟨Z, 0, none⟩ = some (.int .u16 pg) := row_at HRZ6.out 0 _ rfl
                                    have z1 : w6.cell? ⟨Z, 1, none⟩ = some (.int .u32 ts) := row_at HRZ6.out 1 _ rfl
                                    have hco := committed_any (HH.out.keep HB6.out) (by have := HPS.out; omega) (pg, ts)
                                    have hbts : (ts == 0) = false := by simp [hts]
                                    by_cases hC : ComR ps (pg, ts)
                                    · have hcw := Says.calls_yes hco hC
                                      have HR : Hid (TransGen (StR ps true) k i ∧ (ts = 0 ∨ ComR ps (pg, ts))) := ⟨HT.out, Or.inr hC⟩
                                      clear hco hC HT
                                      go_wp2_with (go_at_call 31; refine hcw.mono ?_; clear hcw z0 z1; rintro e w7 ⟨he, hb7⟩; obtain rfl := he)
                                      go_meet
                                      case rel => exact ⟨true, rfl, ⟨fun _ => HR.out, fun _ => rfl⟩, HRZ6.out.below hb7 HRZ6.out.lt, below_trans HB6.out hb7⟩
                                    · have hcw := Says.calls_no hco hC
                                      have HR : Hid (¬ (TransGen (StR ps true) k i ∧ (ts = 0 ∨ ComR ps (pg, ts)))) := fun q => by
                                        rcases q.2 with q | q
                                        · exact hts q
                                        · exact hC q
                                      clear hco hC HT
                                      go_wp2_with (go_at_call 31; refine hcw.mono ?_; clear hcw z0 z1; rintro e w7 ⟨he, hb7⟩; obtain rfl := he)
                                      go_meet
                                      case rel => exact ⟨false, rfl, ⟨(fun q => by cases q), fun q => absurd q HR.out⟩, HRZ6.out.below hb7 HRZ6.out.lt, below_trans HB6.out hb7⟩
                              case rest =>
                                clear HRZ6 HB6 HRC cB
                                rename World => wm
                                obtain ⟨b4, rfl, hb4, rZ, hb⟩ := hcut
                                have HRZ : Hid (Row wm Z #[.int .u16 pg, .int .u32 ts] 46) := rZ
                                have HB : Hid (Below w.heap.size w wm) := hb
                                clear rZ hb
                                cases b4 with
                                | true =>
                                  have HO2 : Hid (OutB ((∃ i', i' < i ∧ AboAt ps i') ∨ ∃ v ∈ x.p.rs.take j, AboV ps v) (∃ i', i' < (i + 1) ∧ CirAt ps i') (∃ i', i' < (i + 1) ∧ ∃ k, k < n ∧ IntAt ps i' k) (((∃ i', i' < i ∧ MisAt ps i') ∨ ∃ v ∈ x.p.rs.take j, ∃ k, k < n ∧ MisV ps i v k) ∨ ∃ k', k' < (k + 1) ∧ MisV ps i (pg, ts) k') (bits BinOp.or IntKind.u8 o 8)) := HK6.out _ (HO.out.m (Or.inr ⟨HF.out.1, HF.out.2, (hb4.1 rfl).1, (hb4.1 rfl).2⟩))
                                  clear hb4 HK6 HO HF
                                  go_wp2
                                  go_roundw
                                  case rel => exact ⟨k + 1, _, bt, rfl, rfl, by go_num, by omega, HBT.out, HRZ.out, HB.out, HO2.out⟩
                                  case measure => simp [intOf]; omega
                                | false =>
                                  have HNM : Hid (¬ MisV ps i (pg, ts) k) := fun q => by have := hb4.2 ⟨q.2.2.1, q.2.2.2⟩; cases this
                                  have HO2 : Hid (OutB ((∃ i', i' < i ∧ AboAt ps i') ∨ ∃ v ∈ x.p.rs.take j, AboV ps v) (∃ i', i' < (i + 1) ∧ CirAt ps i') (∃ i', i' < (i + 1) ∧ ∃ k, k < n ∧ IntAt ps i' k) (((∃ i', i' < i ∧ MisAt ps i') ∨ ∃ v ∈ x.p.rs.take j, ∃ k, k < n ∧ MisV ps i v k) ∨ ∃ k', k' < (k + 1) ∧ MisV ps i (pg, ts) k') o) := HK6.out o (HO.out.congr Iff.rfl Iff.rfl Iff.rfl (or_no HNM.out).symm)
                                  clear hb4 HNM HK6 HO HF
                                  go_wp2
                                  go_roundw
                                  case rel => exact ⟨k + 1, o, bt, rfl, rfl, by go_num, by omega, HBT.out, HRZ.out, HB.out, HO2.out⟩
                                  case measure => simp [intOf]; omega
                      · have hkn' : ¬ (k : Int) < (n : Int) := by omega
                        obtain rfl : k = n := by omega
                        have HBC : Hid (bt = true ↔ (ts = 0 ∨ ComR ps (pg, ts))) := HBT.out.trans (by rw [List.take_of_length_le (by rw [HN.out]; exact Nat.le_refl _)]; exact Iff.rfl)
                        clear HBT hb rZ
                        go_wp2_with fail
                        go_meet
                        case rel => exact ⟨o, bt, rfl, rfl, HBC.out, HBW.out, HO.out⟩
                  case rest =>
                    rename World => w9
                    obtain ⟨o, bt, rfl, rfl, hbt, hb9, hO⟩ := hcut
                    have HBT : Hid (bt = true ↔ (ts = 0 ∨ ComR ps (pg, ts))) := hbt
                    have HB9 : Hid (Below w.heap.size w w9) := hb9
                    have HM5 : Hid (((∃ i', i' < i ∧ MisAt ps i') ∨ ∃ v ∈ x.p.rs.take (j + 1), ∃ k, k < n ∧ MisV ps i v k) ↔ (((∃ i', i' < i ∧ MisAt ps i') ∨ ∃ v ∈ x.p.rs.take j, ∃ k, k < n ∧ MisV ps i v k) ∨ ∃ k', k' < n ∧ MisV ps i (pg, ts) k')) := by show _ ↔ _; rw [ex_take HV.out, or_assoc]
                    have HA5 : Hid (((∃ i', i' < i ∧ AboAt ps i') ∨ ∃ v ∈ x.p.rs.take (j + 1), AboV ps v) ↔ (((∃ i', i' < i ∧ AboAt ps i') ∨ ∃ v ∈ x.p.rs.take j, AboV ps v) ∨ AboV ps (pg, ts))) := by show _ ↔ _; rw [ex_take HV.out, or_assoc]
                    have HO9 : Hid (OutB ((∃ i', i' < i ∧ AboAt ps i') ∨ ∃ v ∈ x.p.rs.take j, AboV ps v) (∃ i', i' < (i + 1) ∧ CirAt ps i') (∃ i', i' < (i + 1) ∧ ∃ k, k < n ∧ IntAt ps i' k) (((∃ i', i' < i ∧ MisAt ps i') ∨ ∃ v ∈ x.p.rs.take j, ∃ k, k < n ∧ MisV ps i v k) ∨ ∃ k', k' < n ∧ MisV ps i (pg, ts) k') o) := hO
                    clear hbt hb9 hO HO rZ hb8
                    cases bt with
                    | true =>
                      have HNA : Hid (¬ AboV ps (pg, ts)) := fun q => by
                        rcases HBT.out.1 rfl with e | e
                        · exact q.1 e
                        · exact q.2 e
                      have HOA : Hid (OutB ((∃ i', i' < i ∧ AboAt ps i') ∨ ∃ v ∈ x.p.rs.take (j + 1), AboV ps v) (∃ i', i' < (i + 1) ∧ CirAt ps i') (∃ i', i' < (i + 1) ∧ ∃ k, k < n ∧ IntAt ps i' k) ((∃ i', i' < i ∧ MisAt ps i') ∨ ∃ v ∈ x.p.rs.take (j + 1), ∃ k, k < n ∧ MisV ps i v k) o) := HO9.out.congr (HA5.out.trans (or_no HNA.out)).symm Iff.rfl Iff.rfl HM5.out.symm
                      clear HBT HNA
                      go_wp2
                      go_roundw
                      case rel => exact ⟨j + 1, o, rfl, by go_num, by omega, HB9.out, HOA.out⟩
                      case measure => simp [intOf]; omega
                    | false =>
                      have HOA : Hid (OutB ((∃ i', i' < i ∧ AboAt ps i') ∨ ∃ v ∈ x.p.rs.take (j + 1), AboV ps v) (∃ i', i' < (i + 1) ∧ CirAt ps i') (∃ i', i' < (i + 1) ∧ ∃ k, k < n ∧ IntAt ps i' k) ((∃ i', i' < i ∧ MisAt ps i') ∨ ∃ v ∈ x.p.rs.take (j + 1), ∃ k, k < n ∧ MisV ps i v k) (bits BinOp.or IntKind.u8 o 1)) := (HO9.out.a (HA5.out.2 (Or.inr ⟨(fun q => by have := HBT.out.2 (Or.inl q); cases this), (fun q => by have := HBT.out.2 (Or.inr q); cases this)⟩))).congr Iff.rfl Iff.rfl Iff.rfl HM5.out.symm
                      clear HBT
                      go_wp2
                      go_roundw
                      case rel => exact ⟨j + 1, _, rfl, by go_num, by omega, HB9.out, HOA.out⟩
                      case measure => simp [intOf]; omega
                · have hjn' : ¬ (j : Int) < (rn : Int) := by omega
                  have HT : Hid (x.p.rs.take j = x.p.rs) := List.take_of_length_le (by rw [← HRN.out]; omega)
                  have HO8 : Hid (OutB (∃ i', i' < (i + 1) ∧ AboAt ps i') (∃ i', i' < (i + 1) ∧ CirAt ps i') (∃ i', i' < (i + 1) ∧ ∃ k, k < n ∧ IntAt ps i' k) (∃ i', i' < (i + 1) ∧ MisAt ps i') o) := HO.out.congr (by rw [HT.out, ex_succ, AboAt.is HX.out HDN.out]) Iff.rfl Iff.rfl (by rw [HT.out, ex_succ, MisAt.is HN.out HX.out HDN.out])
                  clear hb HO
                  go_wp2
                  go_roundw
                  case rel => exact ⟨i + 1, o, rfl, by go_num, by omega, HBY.out, HO8.out⟩
                  case measure => simp [intOf]; omega
      · have hin' : ¬ (i : Int) < (n : Int) := by omega
        obtain rfl : i = n := by omega
        have hfin := HYES.out HHI.out o wr (by unfold ShownD; rw [HN.out]; exact HO0.out) hb
        clear hb HO0
        go_wp2
        exact hfin
end Go.Proofs.Ytdlllnkcjfpajaa
