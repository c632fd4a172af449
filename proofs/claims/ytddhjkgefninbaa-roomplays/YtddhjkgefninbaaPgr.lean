/-
  Proved here: the document's May of undo pages (page's texts, in this seat).
-/
import Derived.Test.YtddhjkgefninbaaRoa
namespace Go.Proofs.Ytddhjkgefninbaa
open Go.ChangeShapes Go.WideShapes Go.ChangeAt Go.RowKit
set_option linter.unusedVariables false
set_option linter.unusedSimpArgs false
set_option maxRecDepth 20000
/-- The lowest n bytes of v, the lowest first, as numbers. -/
def low (v : Int) (n : Nat) : List Int := (List.range n).map fun i => v / 2 ^ (8 * i) % 256
theorem low_length (v : Int) (n : Nat) : (low v n).length = n := by simp [low]
theorem low_succ (v : Int) (n : Nat) : low v (n + 1) = low v n ++ [v / 2 ^ (8 * n) % 256] := by simp [low, List.range_succ]

theorem one_string (x : Int) (w : World) : (Go.convert 64 9 (.slice (some ⟨w.heap.size, 0, none⟩) 1 1)).run Try.prog (w.alloc (.cells #[.int .u8 x] 5)) = .ok (.string (strOfNums [x])) (w.alloc (.cells #[.int .u8 x] 5)) := by
  refine run_convert_bytes_arg (P := Try.prog) _ 64 5 Try.underlying64 Try.underlying5 w.heap.size 0 1 1 [x] rfl ?_ 9 Try.underlying9
  intro i hi
  have : i = 0 := by omega
  subst this
  rw [World.cell?_alloc_new]
  rfl

theorem strOfNums_append (a b : List Int) : strOfNums (a ++ b) = strOfNums a ++ strOfNums b := by
  apply ByteArray.ext
  simp [strOfNums]

theorem div_step (v : Int) (k : Nat) : v / 2 ^ (8 * k) / 256 = v / 2 ^ (8 * (k + 1)) := by
  rw [Int.ediv_ediv_of_nonneg (Int.pow_nonneg (by decide)), show 8 * (k + 1) = 8 * k + 8 by omega, Int.pow_add]
  rfl
theorem div_fits (v : Int) (k : Nat) (h0 : 0 ≤ v) (h1 : v ≤ 18446744073709551615) : 0 ≤ v / 2 ^ k ∧ v / 2 ^ k ≤ 18446744073709551615 := by
  have hp : (0 : Int) < 2 ^ k := Int.pow_pos (by decide)
  exact ⟨Int.ediv_nonneg h0 (Int.le_of_lt hp), Int.le_trans (Int.ediv_le_self _ h0) h1⟩

theorem rput_any (v : Int) (n : Nat) (w : World) (hv : 0 ≤ v) (hv' : v ≤ 18446744073709551615) (hn : n ≤ 8) :
    Calls Try.prog 44 #[.int .u64 v, .int .i64 n] w fun e w' => e = .returned (.string (strOfNums (low v n))) ∧ Below w.heap.size w w' := by
  go_enter Try.func44, Try.ntmps44
  go_wp2
  go_loopw [0, 5, 6] (fun a s i wr => ∃ (k : Nat) (u : Int), k ≤ n ∧ i = .int .i64 k ∧ Hid (u = v / 2 ^ (8 * k)) ∧ a = .int .u64 u ∧ s = .string (strOfNums (low v k)) ∧ Below w.heap.size w wr) (fun _ _ i _ => n - (intOf i).toNat)
  case atStart => exact ⟨0, v, Nat.zero_le _, rfl, by show v = _; simp, rfl, rfl, Below.refl _ _⟩
  case round =>
    obtain ⟨k, u, hk, rfl, HU, rfl, rfl, hg⟩ := hrel
    by_cases hlt : k < n
    · have hs := one_string (u % 256) wr
      have hb : 0 ≤ u ∧ u ≤ 18446744073709551615 := by rw [HU.out]; exact div_fits v _ hv hv'
      have hz : (strOfNums (low v k)).size ≤ 8 := by rw [strOfNums_size, low_length]; omega
      have hz1 : (strOfNums [u % 256]).size = 1 := rfl
      have G := hg.alloc hg.size (.cells #[.int .u8 (u % 256)] 5)
      go_wp2
      go_roundw
      case rel => exact ⟨k + 1, u / 256, by omega, by go_num, (show u / 256 = _ by rw [HU.out, div_step]), rfl, by rw [low_succ, strOfNums_append, HU.out], G⟩
      case measure => simp [intOf]; omega
    · have e : k = n := by omega
      subst e
      go_wp2
      go_ret
      exact ⟨rfl, hg⟩

/-- A register, one bit on. -/
def step (r : BitVec 32) : BitVec 32 := (r >>> 1) ^^^ (if r.getLsbD 0 then 0xedb88320#32 else 0#32)
/-- A register, k bits on. -/
def steps : Nat → BitVec 32 → BitVec 32
  | 0, r => r
  | k + 1, r => step (steps k r)

/-- The register behind k bytes. -/
def run (f : Nat → BitVec 32) : Nat → BitVec 32 → BitVec 32
  | 0, r => r
  | k + 1, r => steps 8 (run f k r ^^^ f k)
/-- A register as a number. -/
def u (r : BitVec 32) : Int := (r.toNat : Int)
/-- A text's bytes. -/
def nums (t : ByteArray) : List Int := t.data.toList.map fun b => (b.toNat : Int)
theorem nums_length (t : ByteArray) : (nums t).length = t.size := by unfold nums; rw [List.length_map]; rfl
theorem tx_nums (t : ByteArray) : strOfNums (nums t) = t := by
  have e : (strOfNums (nums t)).data.toList = t.data.toList := by
    rw [strOfNums_data]
    unfold nums
    rw [List.map_map]
    conv => rhs; rw [← List.map_id t.data.toList]
    apply List.map_congr_left
    intro x _
    simp [Function.comp]
  have e2 : (strOfNums (nums t)).data = t.data := by rw [← Array.toArray_toList (xs := (strOfNums (nums t)).data), e]
  cases t; cases h : strOfNums (nums ⟨_⟩) with | mk d => rw [h] at e2; exact congrArg _ e2
theorem tx_app {a b : List Int} : strOfNums a ++ strOfNums b = strOfNums (a ++ b) := (strOfNums_append a b).symm

/-- A part of an array as a text. -/
theorem str_part {w : World} {g : Nat} {ys : List Int} {t : TypeId} (h : Row w g (bs ys) t) (o n c : Nat) (zsl : List Int) (hz : (ys.drop o).take n = zsl) (hn : o + n ≤ ys.length) :
    (Go.convert 64 9 (.slice (some ⟨g, o, none⟩) n c)).run Try.prog w = .ok (.string (strOfNums zsl)) w := by
  subst hz
  have hl : ((ys.drop o).take n).length = n := by simp; omega
  refine run_convert_bytes_arg (P := Try.prog) w 64 5 Try.underlying64 Try.underlying5 g o n c ((ys.drop o).take n) hl ?_ 9 Try.underlying9
  intro i hi
  rw [row_cell h (o + i) (by omega)]
  simp [List.getD, hi]
theorem str_row {w : World} {g : Nat} {ys : List Int} {t : TypeId} (h : Row w g (bs ys) t) (n c : Nat) (hn : ys.length = n) :
    (Go.convert 64 9 (.slice (some ⟨g, 0, none⟩) n c)).run Try.prog w = .ok (.string (strOfNums ys)) w :=
  str_part h 0 n c ys (by rw [List.drop_zero, List.take_of_length_le (by omega)]) (by omega)

/-- The text of a Ref. -/
def refT (p s : Int) : List Int := low p 2 ++ low s 1
theorem refT_length (p s : Int) : (refT p s).length = 3 := by simp [refT, low_length]
/-- What a data page holds. -/
structure D where
  lsn : Int
  ts : Int
  page : Int
  slot : Int
  body : List Int
def D.zero : D := ⟨0, 0, 0, 0, zs 64⟩
theorem load_cells {P : Program} {ops : Array Oper} {rest : List Oper} {o : Oper} {a : Act} {w : World} {Q : Exit → Act → World → Prop} (hgd : o.guard = none) (ty : TypeId) (x : Operand) (ho : o.op = .load ty x)
    (g : Nat) (hx : a.eval x = .pointer (some ⟨g, 0, none⟩)) (t : TypeId) (cs : Array Value) (hg : Row w g cs t) (n : Nat) {d : TypeDesc}
    (hu : P.underlying ty = some d) (hd : (match d with | .struct _ | .array _ _ => true | _ => false) = true) (hi : (P.info? ty).map (·.size) = some n) (hn : cs.size = n)
    (h : wpList P ops Q rest (a.put o.dst (.agg cs)) w) : wpList P ops Q (o :: rest) a w :=
  wpList_load_row hgd ty x ho g hx t cs (0, 0) _ hg hu hd (by rw [hi, hn]) h
theorem load_cells_g {P : Program} {ops : Array Oper} {rest : List Oper} {o : Oper} {a : Act} {w : World} {Q : Exit → Act → World → Prop} (hw : Region.wanted o (yielded ops a.tmps) = true) (ty : TypeId) (x : Operand) (ho : o.op = .load ty x)
    (g : Nat) (hx : a.eval x = .pointer (some ⟨g, 0, none⟩)) (t : TypeId) (cs : Array Value) (hg : Row w g cs t) (n : Nat) {d : TypeDesc}
    (hu : P.underlying ty = some d) (hd : (match d with | .struct _ | .array _ _ => true | _ => false) = true) (hi : (P.info? ty).map (·.size) = some n) (hn : cs.size = n)
    (h : wpList P ops Q rest (a.put o.dst (.agg cs)) w) : wpList P ops Q (o :: rest) a w :=
  BigFrame.wpList_want hw fun _ hK => wp_load_row ty x ho g hx t cs (0, 0) _ hg hu hd (by rw [hi, hn]) (hK _ _ h)
instance : DecidableEq D := fun a b => by
  cases a; cases b
  simp only [D.mk.injEq]
  exact inferInstance
/-- A record's numbers fit. -/
structure O.Fits (o : O) : Prop where
  page : 0 ≤ o.page ∧ o.page ≤ 65535
  ts : 0 ≤ o.ts ∧ o.ts ≤ 4294967295
  np : 0 ≤ o.np ∧ o.np ≤ 65535
  ns : 0 ≤ o.ns ∧ o.ns ≤ 255
/-- A record's bytes. -/
def liveT (o : O) : List Int := low 1 1 ++ low o.page 2 ++ low o.ts 4 ++ refT o.np o.ns
def oldT (o : O) : List Int := if o.live then liveT o ++ low o.delta.size 1 ++ nums o.delta else low 0 1
theorem liveT_length (o : O) : (liveT o).length = 10 := by simp [liveT, low_length, refT_length]
theorem oldT_length (o : O) : (oldT o).length = if o.live then 11 + o.delta.size else 1 := by
  unfold oldT
  split
  · simp [liveT_length, low_length, nums_length]; omega
  · simp [low_length]
/-- An undo page's records as a text. -/
def oldsT (os : List O) : List Int := os.flatMap oldT
def undoT (os : List O) : List Int := low os.length 1 ++ oldsT os
theorem oldsT_snoc (os : List O) (k : Nat) (o : O) (h : os[k]? = some o) : oldsT (os.take (k + 1)) = oldsT (os.take k) ++ oldT o := by
  unfold oldsT
  rw [List.take_add_one, h, List.flatMap_append]; simp
theorem psize_from (os : List O) : ∀ n : Int, os.foldl (fun n o => n + if o.live then 11 + (o.delta.size : Int) else 1) n = n + (oldsT os).length := by
  induction os with
  | nil => intro n; simp [oldsT]
  | cons o r ih =>
    intro n
    rw [List.foldl_cons, ih]
    have : oldsT (o :: r) = oldT o ++ oldsT r := rfl
    rw [this, List.length_append, oldT_length]
    cases hl : o.live <;> simp <;> omega
theorem psize_is (os : List O) : psize os = 15 + (undoT os).length := by
  unfold psize undoT
  rw [psize_from, List.length_append, low_length]; omega

theorem rput_at (v : Int) (n : Nat) (r : List Int) (hr : low v n = r) (hv : 0 ≤ v) (hv' : v ≤ 18446744073709551615) (hn : n ≤ 8) (w : World) :
    Calls Try.prog 44 #[.int .u64 v, .int .i64 n] w fun e w' => e = .returned (.string (strOfNums r)) ∧ Below w.heap.size w w' := by subst hr; exact rput_any v n w hv hv' hn
/-- An undo page's records as the document's text: it cuts numbers that are too great, as the program does. -/
theorem oldT_live (o : O) (h : o.live = true) : oldT o = [1] ++ low o.page 2 ++ low o.ts 4 ++ low o.np 2 ++ [o.ns % 256, (o.delta.size : Int) % 256] ++ nums o.delta := by
  have e1 : low 1 1 = [1] := by decide
  have e2 : low o.ns 1 = [o.ns % 256] := by simp [low]
  have e3 : low o.delta.size 1 = [(o.delta.size : Int) % 256] := by simp [low]
  unfold oldT liveT refT
  rw [if_pos h, e1, e2, e3]
  simp [List.append_assoc]
theorem oldsT_len (os : List O) (B : Nat) (h : ∀ o ∈ os, o.delta.size ≤ B) : ∀ k, (oldsT (os.take k)).length ≤ k * (11 + B)
  | 0 => by simp [oldsT]
  | k + 1 => by
    have ih := oldsT_len os B h k
    cases he : os[k]? with
    | none =>
      have hl : os.length ≤ k := by simpa using he
      have e1 : os.take (k + 1) = os.take k := by rw [List.take_of_length_le (by omega), List.take_of_length_le hl]
      rw [e1, Nat.succ_mul]; omega
    | some o =>
      have hm := h o (List.mem_of_getElem? he)
      have hol := oldT_length o
      rw [oldsT_snoc os k o he, List.length_append, Nat.succ_mul]
      cases hlv : o.live <;> simp [hlv] at hol <;> omega

set_option maxHeartbeats 4000000 in
theorem text_any (lsn : Int) (v : Value) (os : List O) (w : World) (ho : Olds w v os) (hf : ∀ o ∈ os, o.Fits) (hn : os.length ≤ 1000) (hd : ∀ o ∈ os, o.delta.size ≤ 140737488355328) :
    Calls Try.prog 43 #[.agg #[.int .u64 lsn, v]] w fun e w' => e = .returned (.string (strOfNums ([(os.length : Int) % 256] ++ oldsT os))) ∧ Below w.heap.size w w' := by
  obtain ⟨oa, cap, rfl, hcs⟩ := ho.hold
  have HCS : Hid _ := hcs
  have HLE : Hid _ := oldsT_len os 140737488355328 hd
  have HD : Hid _ := hd
  clear hcs ho hd
  obtain ⟨n, HN⟩ : ∃ n, Hid (os.length = n) := ⟨_, rfl⟩
  rw [HN.out] at HCS hn ⊢
  have r0 : Row (w.alloc (.cells #[.int .u64 lsn, .slice oa n cap] 33)) w.heap.size #[.int .u64 lsn, .slice oa n cap] 33 := Row.new _ _ _
  have ab : Below w.heap.size w (w.alloc (.cells #[.int .u64 lsn, .slice oa n cap] 33)) := (Below.refl _ _).alloc (Nat.le_refl _) _
  have hz := zero50
  have e0 : IntKind.u8.wrap (n : Int) = (n : Int) % 256 := by rw [IntKind.wrap_u8]
  obtain ⟨m, HM⟩ : ∃ m, Hid ((n : Int) % 256 = m) := ⟨_, rfl⟩
  have hm : 0 ≤ m ∧ m ≤ 255 := by rw [← HM.out]; omega
  rw [HM.out] at e0 ⊢
  have e0' : (n : Int) % 256 = m := HM.out
  have r1 : Row ((w.alloc (.cells #[.int .u64 lsn, .slice oa n cap] 33)).alloc (.cells #[.int .u8 m] 5)) (w.heap.size + 1) #[.int .u8 m] 5 := by have := Row.new (w.alloc (.cells #[.int .u64 lsn, .slice oa n cap] 33)) #[.int .u8 m] 5; simpa using this
  have hs1 := str_row (ys := [m]) r1 1 1 rfl
  have r0' := r0.alloc (.cells #[.int .u8 m] 5)
  have ab' := ab.alloc ab.size (.cells #[.int .u8 m] 5)
  have c0 := row_at r0 1 _ rfl
  go_enter Try.func43, Try.ntmps43
  go_upto_region 1 with fail
  go_upto_region 2 with fail
  clear hs1 r1 c0
  generalize (w.alloc (.cells #[.int .u64 lsn, .slice oa n cap] 33)).alloc (.cells #[.int .u8 m] 5) = w1 at r0' ab' ⊢
  have c1 := row_at r0' 1 _ rfl
  have HT0 : Hid (strOfNums ([m] ++ oldsT (os.take 0)) = strOfNums [m]) := by show _ = _; simp [oldsT]
  clear r0 ab
  go_wp2
  go_loopw [3, 15] (fun t i wr => ∃ k : Nat, k ≤ n ∧ i = .int .i64 k ∧ t = .string (strOfNums ([m] ++ oldsT (os.take k))) ∧ Row wr w.heap.size #[.int .u64 lsn, .slice oa n cap] 33 ∧ Below w.heap.size w wr) (fun _ i _ => n - (intOf i).toNat)
  case atStart => exact ⟨0, by omega, rfl, by rw [HT0.out], r0', ab'⟩
  case round =>
    clear r0' ab' c1 HT0
    obtain ⟨k, hk, rfl, rfl, r0, rb⟩ := hrel
    by_cases hkn : k < n
    · obtain ⟨a, l, p, t, np, ns, dl, rfl, he, hcell⟩ := HCS.out k hkn
      have hcw : ∀ j u, [Value.bool l, .int .u16 p, .int .u32 t, .int .u16 np, .int .u8 ns, .string dl][j]? = some u → wr.cell? ((a.add (k * 6)).add j) = some u := fun j u hj => cell_keep (hcell j u hj) rb
      have hmem : (⟨l, p, t, np, ns, dl⟩ : O) ∈ os := List.mem_of_getElem? he
      have hdz : dl.size ≤ 140737488355328 := HD.out _ hmem
      obtain ⟨f1, f2, f3, f4⟩ := hf _ hmem
      simp only at f1 f2 f3 f4
      have HS := show Hid _ from oldsT_snoc os k _ he
      have hle : (oldsT (os.take k)).length ≤ 1000 * (11 + 140737488355328) := Nat.le_trans (HLE.out k) (Nat.mul_le_mul_right _ (by omega))
      obtain ⟨Y, HY⟩ : ∃ X, Hid ([m] ++ oldsT (os.take k) = X) := ⟨_, rfl⟩
      obtain ⟨Y', HY'⟩ : ∃ X, Hid ([m] ++ oldsT (os.take (k + 1)) = X) := ⟨_, rfl⟩
      have HYY : Hid (Y' = Y ++ oldT ⟨l, p, t, np, ns, dl⟩) := by show _ = _; rw [← HY'.out, HS.out, ← HY.out, List.append_assoc]
      have hzY : (strOfNums Y).size ≤ 1000 * (11 + 140737488355328) + 1 := by rw [strOfNums_size, ← HY.out, List.length_append]; simp; omega
      rw [HY.out]
      clear he hcell hmem HS hle
      have tl : Hid (1 = 1) := rfl
      have hkn' : (k : Int) < (n : Int) := by omega
      have q1 : Row (wr.alloc (.cells #[.bool false, .int .u16 0, .int .u32 0, .int .u16 0, .int .u8 0, .string ByteArray.empty] 50)) wr.heap.size #[.bool false, .int .u16 0, .int .u32 0, .int .u16 0, .int .u8 0, .string ByteArray.empty] 50 := Row.new _ _ _
      go_upto_region 5 with (first
        | (have hh := tl; clear hh tl; refine wpList_load_any rfl 50 (.tmp 17) rfl (a.add (k * 6)) rfl [.bool l, .int .u16 p, .int .u32 t, .int .u16 np, .int .u8 ns, .string dl] _ hcw Try.underlying50 rfl size50 ?_)
        | (refine store_cells rfl 50 (.tmp 5) (.tmp 18) rfl wr.heap.size #[.bool l, .int .u16 p, .int .u32 t, .int .u16 np, .int .u8 ns, .string dl] rfl rfl 50 _ q1 6 size50 rfl rfl (by simp [Value.oneCell']) ?_))
      have q2 := q1.set #[.bool l, .int .u16 p, .int .u32 t, .int .u16 np, .int .u8 ns, .string dl]
      have hlt := r0.lt
      have d0 := (r0.alloc (.cells #[.bool false, .int .u16 0, .int .u32 0, .int .u16 0, .int .u8 0, .string ByteArray.empty] 50)).other (g := wr.heap.size) (by omega) #[.bool l, .int .u16 p, .int .u32 t, .int .u16 np, .int .u8 ns, .string dl]
      have db := below_setRow (rb.alloc rb.size (.cells #[.bool false, .int .u16 0, .int .u32 0, .int .u16 0, .int .u8 0, .string ByteArray.empty] 50)) rb.size #[.bool l, .int .u16 p, .int .u32 t, .int .u16 np, .int .u8 ns, .string dl]
      clear r0 rb q1 hcw
      generalize (wr.alloc (.cells #[.bool false, .int .u16 0, .int .u32 0, .int .u16 0, .int .u8 0, .string ByteArray.empty] 50)).setRow wr.heap.size #[.bool l, .int .u16 p, .int .u32 t, .int .u16 np, .int .u8 ns, .string dl] = w5 at q2 d0 db ⊢
      generalize wr.heap.size = go at q2 hlt ⊢
      cases l
      · have hYY : strOfNums Y ++ { data := #[0] } = strOfNums Y' := by
          have : ({ data := #[0] } : ByteArray) = strOfNums [0] := rfl
          rw [this, tx_app, HYY.out]; rfl
        have c0 := row_at q2 0 _ rfl
        go_wp2
        go_roundw
        case rel => exact ⟨k + 1, by omega, by go_num, by rw [HY'.out], d0, db⟩
        case measure => simp [intOf]; omega
      · have c0 := row_at q2 0 _ rfl
        go_upto_region 6 with fail
        clear c0
        have HT : Hid _ := oldT_live ⟨true, p, t, np, ns, dl⟩ rfl
        simp only at HT
        obtain ⟨A1, HA1⟩ : ∃ A, Hid (low p 2 = A) := ⟨_, rfl⟩
        obtain ⟨A2, HA2⟩ : ∃ A, Hid (low t 4 = A) := ⟨_, rfl⟩
        obtain ⟨A3, HA3⟩ : ∃ A, Hid (low np 2 = A) := ⟨_, rfl⟩
        obtain ⟨z, HZ⟩ : ∃ A, Hid ((dl.size : Int) % 256 = A) := ⟨_, rfl⟩
        have en : ns % 256 = ns := by omega
        rw [HA1.out, HA2.out, HA3.out, HZ.out, en] at HT
        obtain ⟨B1, HB1⟩ : ∃ A, Hid ([(1 : Int)] ++ A1 = A) := ⟨_, rfl⟩
        obtain ⟨B2, HB2⟩ : ∃ A, Hid (B1 ++ A2 = A) := ⟨_, rfl⟩
        obtain ⟨B3, HB3⟩ : ∃ A, Hid (B2 ++ A3 = A) := ⟨_, rfl⟩
        obtain ⟨B4, HB4⟩ : ∃ A, Hid (B3 ++ [ns, z] = A) := ⟨_, rfl⟩
        obtain ⟨B5, HB5⟩ : ∃ A, Hid (B4 ++ nums dl = A) := ⟨_, rfl⟩
        rw [HB1.out, HB2.out, HB3.out, HB4.out, HB5.out] at HT
        have P1 : Hid _ := rput_at p 2 A1 HA1.out (by omega) (by omega) (by decide)
        have P2 : Hid _ := rput_at t 4 A2 HA2.out (by omega) (by omega) (by decide)
        have P3 : Hid _ := rput_at np 2 A3 HA3.out (by omega) (by omega) (by decide)
        have x1 : IntKind.u64.wrap p = p := by rw [IntKind.wrap_u64]; omega
        have x2 : IntKind.u64.wrap t = t := by rw [IntKind.wrap_u64]; omega
        have x3 : IntKind.u64.wrap np = np := by rw [IntKind.wrap_u64]; omega
        have x4 : IntKind.u8.wrap (dl.size : Int) = z := by rw [IntKind.wrap_u8]; exact HZ.out
        have x4' : (dl.size : Int) % 256 = z := HZ.out
        have z1 : (strOfNums A1).size = 2 := by rw [strOfNums_size, ← HA1.out, low_length]
        have z2 : (strOfNums A2).size = 4 := by rw [strOfNums_size, ← HA2.out, low_length]
        have z3 : (strOfNums A3).size = 2 := by rw [strOfNums_size, ← HA3.out, low_length]
        have z4 : (strOfNums [ns, z]).size = 2 := rfl
        have t1 : { data := #[1] } ++ strOfNums A1 = strOfNums B1 := by
          have : ({ data := #[1] } : ByteArray) = strOfNums [1] := rfl
          rw [this, tx_app, HB1.out]
        have t2 : strOfNums B1 ++ strOfNums A2 = strOfNums B2 := by rw [tx_app, HB2.out]
        have t3 : strOfNums B2 ++ strOfNums A3 = strOfNums B3 := by rw [tx_app, HB3.out]
        have t4 : strOfNums B3 ++ strOfNums [ns, z] = strOfNums B4 := by rw [tx_app, HB4.out]
        have t5 : strOfNums B4 ++ dl = strOfNums B5 := by
          conv => lhs; rw [← tx_nums dl]
          rw [tx_app, HB5.out]
        have t6 : strOfNums Y ++ strOfNums B5 = strOfNums Y' := by rw [tx_app, HYY.out, HT.out]
        have y1 : (strOfNums B1).size = 3 := by rw [← t1, ByteArray.size_append, z1]; rfl
        have y2 : (strOfNums B2).size = 7 := by rw [← t2, ByteArray.size_append, y1, z2]
        have y3 : (strOfNums B3).size = 9 := by rw [← t3, ByteArray.size_append, y2, z3]
        have y4 : (strOfNums B4).size = 11 := by rw [← t4, ByteArray.size_append, y3, z4]
        have y5 : (strOfNums B5).size = 11 + dl.size := by rw [← t5, ByteArray.size_append, y4]
        refine wp_region_held_drew (S := fun w' => Row w' go #[.bool true, .int .u16 p, .int .u32 t, .int .u16 np, .int .u8 ns, .string dl] 50 ∧ Row w' w.heap.size #[.int .u64 lsn, .slice (some a) n cap] 33 ∧ Below w.heap.size w w') (by kernel_rfl) ⟨q2, d0, db.drew⟩ fun hS => ?_
        clear q2 d0 db
        generalize w5.drew = wd at hS ⊢
        refine wpAnyH_take (i := 0) (v := .string (strOfNums Y)) rfl (by kernel_rfl) (by kernel_rfl) (by kernel_rfl) (fun _ _ _ h => h) (Or.inl ⟨by rfl, fun w _ => by go_simp⟩) hS ?_
        try simp only [Act.put, List.getElem_toArray, List.getElem_cons_zero, List.getElem_cons_succ, List.setIfInBounds_toArray, List.set_cons_zero, List.set_cons_succ]
        refine wpAnyH_take (i := 1) (v := .pointer (some ⟨go, 1, none⟩)) rfl (by kernel_rfl) (by kernel_rfl) (by kernel_rfl) (fun _ _ _ h => h) (Or.inl ⟨by rfl, fun w _ => by go_simp⟩) hS ?_
        try simp only [Act.put, List.getElem_toArray, List.getElem_cons_zero, List.getElem_cons_succ, List.setIfInBounds_toArray, List.set_cons_zero, List.set_cons_succ]
        refine wpAnyH_take (i := 2) (v := .int .u16 p) rfl (by kernel_rfl) (by kernel_rfl) (by kernel_rfl) (fun _ _ _ h => h) (Or.inl ⟨by rfl, fun w h => by have c := row_at h.1 1 _ rfl; go_simp⟩) hS ?_
        try simp only [Act.put, List.getElem_toArray, List.getElem_cons_zero, List.getElem_cons_succ, List.setIfInBounds_toArray, List.set_cons_zero, List.set_cons_succ]
        refine wpAnyH_take (i := 3) (v := .int .u64 p) rfl (by kernel_rfl) (by kernel_rfl) (by kernel_rfl) (fun _ _ _ h => h) (Or.inl ⟨by rfl, fun w _ => by go_simp⟩) hS ?_
        try simp only [Act.put, List.getElem_toArray, List.getElem_cons_zero, List.getElem_cons_succ, List.setIfInBounds_toArray, List.set_cons_zero, List.set_cons_succ]
        refine wpAnyH_take (i := 6) (v := .pointer (some ⟨go, 2, none⟩)) rfl (by kernel_rfl) (by kernel_rfl) (by kernel_rfl) (fun _ _ _ h => h) (Or.inl ⟨by rfl, fun w _ => by go_simp⟩) hS ?_
        try simp only [Act.put, List.getElem_toArray, List.getElem_cons_zero, List.getElem_cons_succ, List.setIfInBounds_toArray, List.set_cons_zero, List.set_cons_succ]
        refine wpAnyH_take (i := 7) (v := .int .u32 t) rfl (by kernel_rfl) (by kernel_rfl) (by kernel_rfl) (fun _ _ _ h => h) (Or.inl ⟨by rfl, fun w h => by have c := row_at h.1 2 _ rfl; go_simp⟩) hS ?_
        try simp only [Act.put, List.getElem_toArray, List.getElem_cons_zero, List.getElem_cons_succ, List.setIfInBounds_toArray, List.set_cons_zero, List.set_cons_succ]
        refine wpAnyH_take (i := 8) (v := .int .u64 t) rfl (by kernel_rfl) (by kernel_rfl) (by kernel_rfl) (fun _ _ _ h => h) (Or.inl ⟨by rfl, fun w _ => by go_simp⟩) hS ?_
        try simp only [Act.put, List.getElem_toArray, List.getElem_cons_zero, List.getElem_cons_succ, List.setIfInBounds_toArray, List.set_cons_zero, List.set_cons_succ]
        refine wpAnyH_take (i := 11) (v := .pointer (some ⟨go, 3, none⟩)) rfl (by kernel_rfl) (by kernel_rfl) (by kernel_rfl) (fun _ _ _ h => h) (Or.inl ⟨by rfl, fun w _ => by go_simp⟩) hS ?_
        try simp only [Act.put, List.getElem_toArray, List.getElem_cons_zero, List.getElem_cons_succ, List.setIfInBounds_toArray, List.set_cons_zero, List.set_cons_succ]
        refine wpAnyH_take (i := 12) (v := .pointer (some ⟨go, 3, none⟩)) rfl (by kernel_rfl) (by kernel_rfl) (by kernel_rfl) (fun _ _ _ h => h) (Or.inl ⟨by rfl, fun w _ => by go_simp⟩) hS ?_
        try simp only [Act.put, List.getElem_toArray, List.getElem_cons_zero, List.getElem_cons_succ, List.setIfInBounds_toArray, List.set_cons_zero, List.set_cons_succ]
        refine wpAnyH_take (i := 13) (v := .int .u16 np) rfl (by kernel_rfl) (by kernel_rfl) (by kernel_rfl) (fun _ _ _ h => h) (Or.inl ⟨by rfl, fun w h => by have c := row_at h.1 3 _ rfl; go_simp⟩) hS ?_
        try simp only [Act.put, List.getElem_toArray, List.getElem_cons_zero, List.getElem_cons_succ, List.setIfInBounds_toArray, List.set_cons_zero, List.set_cons_succ]
        refine wpAnyH_take (i := 14) (v := .int .u64 np) rfl (by kernel_rfl) (by kernel_rfl) (by kernel_rfl) (fun _ _ _ h => h) (Or.inl ⟨by rfl, fun w _ => by go_simp⟩) hS ?_
        try simp only [Act.put, List.getElem_toArray, List.getElem_cons_zero, List.getElem_cons_succ, List.setIfInBounds_toArray, List.set_cons_zero, List.set_cons_succ]
        refine wpAnyH_take (i := 17) (v := .pointer (some ⟨go, 3, none⟩)) rfl (by kernel_rfl) (by kernel_rfl) (by kernel_rfl) (fun _ _ _ h => h) (Or.inl ⟨by rfl, fun w _ => by go_simp⟩) hS ?_
        try simp only [Act.put, List.getElem_toArray, List.getElem_cons_zero, List.getElem_cons_succ, List.setIfInBounds_toArray, List.set_cons_zero, List.set_cons_succ]
        refine wpAnyH_take (i := 18) (v := .pointer (some ⟨go, 4, none⟩)) rfl (by kernel_rfl) (by kernel_rfl) (by kernel_rfl) (fun _ _ _ h => h) (Or.inl ⟨by rfl, fun w _ => by go_simp⟩) hS ?_
        try simp only [Act.put, List.getElem_toArray, List.getElem_cons_zero, List.getElem_cons_succ, List.setIfInBounds_toArray, List.set_cons_zero, List.set_cons_succ]
        refine wpAnyH_take (i := 19) (v := .int .u8 ns) rfl (by kernel_rfl) (by kernel_rfl) (by kernel_rfl) (fun _ _ _ h => h) (Or.inl ⟨by rfl, fun w h => by have c := row_at h.1 4 _ rfl; go_simp⟩) hS ?_
        try simp only [Act.put, List.getElem_toArray, List.getElem_cons_zero, List.getElem_cons_succ, List.setIfInBounds_toArray, List.set_cons_zero, List.set_cons_succ]
        refine wpAnyH_take (i := 20) (v := .pointer (some ⟨go, 5, none⟩)) rfl (by kernel_rfl) (by kernel_rfl) (by kernel_rfl) (fun _ _ _ h => h) (Or.inl ⟨by rfl, fun w _ => by go_simp⟩) hS ?_
        try simp only [Act.put, List.getElem_toArray, List.getElem_cons_zero, List.getElem_cons_succ, List.setIfInBounds_toArray, List.set_cons_zero, List.set_cons_succ]
        refine wpAnyH_take (i := 21) (v := .string dl) rfl (by kernel_rfl) (by kernel_rfl) (by kernel_rfl) (fun _ _ _ h => h) (Or.inl ⟨by rfl, fun w h => by have c := row_at h.1 5 _ rfl; go_simp⟩) hS ?_
        try simp only [Act.put, List.getElem_toArray, List.getElem_cons_zero, List.getElem_cons_succ, List.setIfInBounds_toArray, List.set_cons_zero, List.set_cons_succ]
        refine wpAnyH_take (i := 22) (v := .int .i64 dl.size) rfl (by kernel_rfl) (by kernel_rfl) (by kernel_rfl) (fun _ _ _ h => h) (Or.inl ⟨by rfl, fun w _ => by go_simp⟩) hS ?_
        try simp only [Act.put, List.getElem_toArray, List.getElem_cons_zero, List.getElem_cons_succ, List.setIfInBounds_toArray, List.set_cons_zero, List.set_cons_succ]
        refine wpAnyH_take (i := 23) (v := .int .u8 z) rfl (by kernel_rfl) (by kernel_rfl) (by kernel_rfl) (fun _ _ _ h => h) (Or.inl ⟨by rfl, fun w _ => by go_simp⟩) hS ?_
        try simp only [Act.put, List.getElem_toArray, List.getElem_cons_zero, List.getElem_cons_succ, List.setIfInBounds_toArray, List.set_cons_zero, List.set_cons_succ]
        refine wpAnyH_take (i := 27) (v := .pointer (some ⟨go, 5, none⟩)) rfl (by kernel_rfl) (by kernel_rfl) (by kernel_rfl) (fun _ _ _ h => h) (Or.inl ⟨by rfl, fun w _ => by go_simp⟩) hS ?_
        try simp only [Act.put, List.getElem_toArray, List.getElem_cons_zero, List.getElem_cons_succ, List.setIfInBounds_toArray, List.set_cons_zero, List.set_cons_succ]
        refine wpAnyH_take (i := 28) (v := .string dl) rfl (by kernel_rfl) (by kernel_rfl) (by kernel_rfl) (fun _ _ _ h => h) (Or.inl ⟨by rfl, fun w h => by have c := row_at h.1 5 _ rfl; go_simp⟩) hS ?_
        try simp only [Act.put, List.getElem_toArray, List.getElem_cons_zero, List.getElem_cons_succ, List.setIfInBounds_toArray, List.set_cons_zero, List.set_cons_succ]
        refine wpAnyH_ready (rs := [4, 24]) (by kernel_rfl) (by simp) ?_
        exact (AllReadyH.cons rfl (fun K hK => by
          go_simp
          go_at_call 44
          refine Calls.mono (P1.out _) ?_
          rintro e w1_4 ⟨rfl, hcb⟩
          refine hK.out _ _ (⟨hS.1.below hcb hS.1.lt, hS.2.1.below hcb hS.2.1.lt, hS.2.2.trans (hcb.mono hS.2.2.size)⟩) fun hS => ?_
          try simp only [Act.put, List.getElem_toArray, List.getElem_cons_zero, List.getElem_cons_succ, List.setIfInBounds_toArray, List.set_cons_zero, List.set_cons_succ]
          clear hcb
          refine wpAnyH_take (i := 5) (v := .string (strOfNums B1)) rfl (by kernel_rfl) (by kernel_rfl) (by kernel_rfl) (fun _ _ _ h => h) (Or.inl ⟨by rfl, fun w _ => by go_simp⟩) hS ?_
          try simp only [Act.put, List.getElem_toArray, List.getElem_cons_zero, List.getElem_cons_succ, List.setIfInBounds_toArray, List.set_cons_zero, List.set_cons_succ]
          refine wpAnyH_ready (rs := [9, 24]) (by kernel_rfl) (by simp) ?_
          exact (AllReadyH.cons rfl (fun K hK => by
            go_simp
            go_at_call 44
            refine Calls.mono (P2.out _) ?_
            rintro e w2_9 ⟨rfl, hcb⟩
            refine hK.out _ _ (⟨hS.1.below hcb hS.1.lt, hS.2.1.below hcb hS.2.1.lt, hS.2.2.trans (hcb.mono hS.2.2.size)⟩) fun hS => ?_
            try simp only [Act.put, List.getElem_toArray, List.getElem_cons_zero, List.getElem_cons_succ, List.setIfInBounds_toArray, List.set_cons_zero, List.set_cons_succ]
            clear hcb
            refine wpAnyH_take (i := 10) (v := .string (strOfNums B2)) rfl (by kernel_rfl) (by kernel_rfl) (by kernel_rfl) (fun _ _ _ h => h) (Or.inl ⟨by rfl, fun w _ => by go_simp⟩) hS ?_
            try simp only [Act.put, List.getElem_toArray, List.getElem_cons_zero, List.getElem_cons_succ, List.setIfInBounds_toArray, List.set_cons_zero, List.set_cons_succ]
            refine wpAnyH_ready (rs := [15, 24]) (by kernel_rfl) (by simp) ?_
            exact (AllReadyH.cons rfl (fun K hK => by
              go_simp
              go_at_call 44
              refine Calls.mono (P3.out _) ?_
              rintro e w3_15 ⟨rfl, hcb⟩
              refine hK.out _ _ (⟨hS.1.below hcb hS.1.lt, hS.2.1.below hcb hS.2.1.lt, hS.2.2.trans (hcb.mono hS.2.2.size)⟩) fun hS => ?_
              try simp only [Act.put, List.getElem_toArray, List.getElem_cons_zero, List.getElem_cons_succ, List.setIfInBounds_toArray, List.set_cons_zero, List.set_cons_succ]
              clear hcb
              refine wpAnyH_take (i := 16) (v := .string (strOfNums B3)) rfl (by kernel_rfl) (by kernel_rfl) (by kernel_rfl) (fun _ _ _ h => h) (Or.inl ⟨by rfl, fun w _ => by go_simp⟩) hS ?_
              try simp only [Act.put, List.getElem_toArray, List.getElem_cons_zero, List.getElem_cons_succ, List.setIfInBounds_toArray, List.set_cons_zero, List.set_cons_succ]
              refine wpAnyH_ready (rs := [24]) (by kernel_rfl) (by simp) ?_
              refine AllReadyH.cons rfl (fun K hK => ?_) AllReadyH.nil
              have ngb := hS.2.2.size
              have ngbs0 := hS.1.lt
              have ngbs1 := hS.2.1.lt
              have rb : Row (w3_15.alloc (.cells #[.int .u8 ns, .int .u8 z] 5)) w3_15.heap.size #[.int .u8 ns, .int .u8 z] 5 := Row.new _ _ _
              go_simp
              refine hK.out _ _ (⟨hS.1.alloc _, hS.2.1.alloc _, hS.2.2.alloc hS.2.2.size _⟩) fun hS => ?_
              try simp only [Act.put, List.getElem_toArray, List.getElem_cons_zero, List.getElem_cons_succ, List.setIfInBounds_toArray, List.set_cons_zero, List.set_cons_succ]
              generalize w3_15.alloc (.cells #[.int .u8 ns, .int .u8 z] 5) = w4_24 at rb  hS ⊢
              generalize w3_15.heap.size = gb at rb ngb ngbs0 ngbs1 ⊢
              refine wpAnyH_ready (rs := [25]) (by kernel_rfl) (by simp) ?_
              refine AllReadyH.cons rfl (fun K hK => ?_) AllReadyH.nil
              have cc := str_row (ys := [ns, z]) rb 2 2 rfl
              go_simp
              refine hK.out _ _ (hS) fun hS => ?_
              try simp only [Act.put, List.getElem_toArray, List.getElem_cons_zero, List.getElem_cons_succ, List.setIfInBounds_toArray, List.set_cons_zero, List.set_cons_succ]
              clear cc
              refine wpAnyH_take (i := 26) (v := .string (strOfNums B4)) rfl (by kernel_rfl) (by kernel_rfl) (by kernel_rfl) (fun _ _ _ h => h) (Or.inl ⟨by rfl, fun w _ => by go_simp⟩) hS ?_
              try simp only [Act.put, List.getElem_toArray, List.getElem_cons_zero, List.getElem_cons_succ, List.setIfInBounds_toArray, List.set_cons_zero, List.set_cons_succ]
              refine wpAnyH_take (i := 29) (v := .string (strOfNums B5)) rfl (by kernel_rfl) (by kernel_rfl) (by kernel_rfl) (fun _ _ _ h => h) (Or.inl ⟨by rfl, fun w _ => by go_simp; omega⟩) hS ?_
              try simp only [Act.put, List.getElem_toArray, List.getElem_cons_zero, List.getElem_cons_succ, List.setIfInBounds_toArray, List.set_cons_zero, List.set_cons_succ]
              refine wpAnyH_take (i := 30) (v := .string (strOfNums Y')) rfl (by kernel_rfl) (by kernel_rfl) (by kernel_rfl) (fun _ _ _ h => h) (Or.inl ⟨by rfl, fun w _ => by go_simp; omega⟩) hS ?_
              try simp only [Act.put, List.getElem_toArray, List.getElem_cons_zero, List.getElem_cons_succ, List.setIfInBounds_toArray, List.set_cons_zero, List.set_cons_succ]
              refine wpAnyH_take (i := 31) (v := .string (strOfNums Y')) rfl (by kernel_rfl) (by kernel_rfl) (by kernel_rfl) (fun _ _ _ h => h) (Or.inl ⟨by rfl, fun w _ => by go_simp⟩) hS ?_
              try simp only [Act.put, List.getElem_toArray, List.getElem_cons_zero, List.getElem_cons_succ, List.setIfInBounds_toArray, List.set_cons_zero, List.set_cons_succ]
              refine wpAnyH_done (by kernel_rfl) ?_ _
              go_wp2
              go_roundw
              case rel => exact ⟨k + 1, by omega, by go_num, by rw [HY'.out], hS.2.1, hS.2.2⟩
              case measure => simp [intOf]; omega
            ) (AllReadyH.cons rfl (fun K hK => by
              have ngb := hS.2.2.size
              have ngbs0 := hS.1.lt
              have ngbs1 := hS.2.1.lt
              have rb : Row (w2_9.alloc (.cells #[.int .u8 ns, .int .u8 z] 5)) w2_9.heap.size #[.int .u8 ns, .int .u8 z] 5 := Row.new _ _ _
              go_simp
              refine hK.out _ _ (⟨hS.1.alloc _, hS.2.1.alloc _, hS.2.2.alloc hS.2.2.size _⟩) fun hS => ?_
              try simp only [Act.put, List.getElem_toArray, List.getElem_cons_zero, List.getElem_cons_succ, List.setIfInBounds_toArray, List.set_cons_zero, List.set_cons_succ]
              generalize w2_9.alloc (.cells #[.int .u8 ns, .int .u8 z] 5) = w3_24 at rb  hS ⊢
              generalize w2_9.heap.size = gb at rb ngb ngbs0 ngbs1 ⊢
              refine wpAnyH_ready (rs := [15, 25]) (by kernel_rfl) (by simp) ?_
              exact (AllReadyH.cons rfl (fun K hK => by
                go_simp
                go_at_call 44
                refine Calls.mono (P3.out _) ?_
                rintro e w4_15 ⟨rfl, hcb⟩
                have rb := rb.below hcb rb.lt
                refine hK.out _ _ (⟨hS.1.below hcb hS.1.lt, hS.2.1.below hcb hS.2.1.lt, hS.2.2.trans (hcb.mono hS.2.2.size)⟩) fun hS => ?_
                try simp only [Act.put, List.getElem_toArray, List.getElem_cons_zero, List.getElem_cons_succ, List.setIfInBounds_toArray, List.set_cons_zero, List.set_cons_succ]
                clear hcb
                refine wpAnyH_take (i := 16) (v := .string (strOfNums B3)) rfl (by kernel_rfl) (by kernel_rfl) (by kernel_rfl) (fun _ _ _ h => h) (Or.inl ⟨by rfl, fun w _ => by go_simp⟩) hS ?_
                try simp only [Act.put, List.getElem_toArray, List.getElem_cons_zero, List.getElem_cons_succ, List.setIfInBounds_toArray, List.set_cons_zero, List.set_cons_succ]
                refine wpAnyH_ready (rs := [25]) (by kernel_rfl) (by simp) ?_
                refine AllReadyH.cons rfl (fun K hK => ?_) AllReadyH.nil
                have cc := str_row (ys := [ns, z]) rb 2 2 rfl
                go_simp
                refine hK.out _ _ (hS) fun hS => ?_
                try simp only [Act.put, List.getElem_toArray, List.getElem_cons_zero, List.getElem_cons_succ, List.setIfInBounds_toArray, List.set_cons_zero, List.set_cons_succ]
                clear cc
                refine wpAnyH_take (i := 26) (v := .string (strOfNums B4)) rfl (by kernel_rfl) (by kernel_rfl) (by kernel_rfl) (fun _ _ _ h => h) (Or.inl ⟨by rfl, fun w _ => by go_simp⟩) hS ?_
                try simp only [Act.put, List.getElem_toArray, List.getElem_cons_zero, List.getElem_cons_succ, List.setIfInBounds_toArray, List.set_cons_zero, List.set_cons_succ]
                refine wpAnyH_take (i := 29) (v := .string (strOfNums B5)) rfl (by kernel_rfl) (by kernel_rfl) (by kernel_rfl) (fun _ _ _ h => h) (Or.inl ⟨by rfl, fun w _ => by go_simp; omega⟩) hS ?_
                try simp only [Act.put, List.getElem_toArray, List.getElem_cons_zero, List.getElem_cons_succ, List.setIfInBounds_toArray, List.set_cons_zero, List.set_cons_succ]
                refine wpAnyH_take (i := 30) (v := .string (strOfNums Y')) rfl (by kernel_rfl) (by kernel_rfl) (by kernel_rfl) (fun _ _ _ h => h) (Or.inl ⟨by rfl, fun w _ => by go_simp; omega⟩) hS ?_
                try simp only [Act.put, List.getElem_toArray, List.getElem_cons_zero, List.getElem_cons_succ, List.setIfInBounds_toArray, List.set_cons_zero, List.set_cons_succ]
                refine wpAnyH_take (i := 31) (v := .string (strOfNums Y')) rfl (by kernel_rfl) (by kernel_rfl) (by kernel_rfl) (fun _ _ _ h => h) (Or.inl ⟨by rfl, fun w _ => by go_simp⟩) hS ?_
                try simp only [Act.put, List.getElem_toArray, List.getElem_cons_zero, List.getElem_cons_succ, List.setIfInBounds_toArray, List.set_cons_zero, List.set_cons_succ]
                refine wpAnyH_done (by kernel_rfl) ?_ _
                go_wp2
                go_roundw
                case rel => exact ⟨k + 1, by omega, by go_num, by rw [HY'.out], hS.2.1, hS.2.2⟩
                case measure => simp [intOf]; omega
              ) (AllReadyH.cons rfl (fun K hK => by
                have cc := str_row (ys := [ns, z]) rb 2 2 rfl
                go_simp
                refine hK.out _ _ (hS) fun hS => ?_
                try simp only [Act.put, List.getElem_toArray, List.getElem_cons_zero, List.getElem_cons_succ, List.setIfInBounds_toArray, List.set_cons_zero, List.set_cons_succ]
                clear cc
                refine wpAnyH_ready (rs := [15]) (by kernel_rfl) (by simp) ?_
                refine AllReadyH.cons rfl (fun K hK => ?_) AllReadyH.nil
                go_simp
                go_at_call 44
                refine Calls.mono (P3.out _) ?_
                rintro e w5_15 ⟨rfl, hcb⟩
                have rb := rb.below hcb rb.lt
                refine hK.out _ _ (⟨hS.1.below hcb hS.1.lt, hS.2.1.below hcb hS.2.1.lt, hS.2.2.trans (hcb.mono hS.2.2.size)⟩) fun hS => ?_
                try simp only [Act.put, List.getElem_toArray, List.getElem_cons_zero, List.getElem_cons_succ, List.setIfInBounds_toArray, List.set_cons_zero, List.set_cons_succ]
                clear hcb
                refine wpAnyH_take (i := 16) (v := .string (strOfNums B3)) rfl (by kernel_rfl) (by kernel_rfl) (by kernel_rfl) (fun _ _ _ h => h) (Or.inl ⟨by rfl, fun w _ => by go_simp⟩) hS ?_
                try simp only [Act.put, List.getElem_toArray, List.getElem_cons_zero, List.getElem_cons_succ, List.setIfInBounds_toArray, List.set_cons_zero, List.set_cons_succ]
                refine wpAnyH_take (i := 26) (v := .string (strOfNums B4)) rfl (by kernel_rfl) (by kernel_rfl) (by kernel_rfl) (fun _ _ _ h => h) (Or.inl ⟨by rfl, fun w _ => by go_simp⟩) hS ?_
                try simp only [Act.put, List.getElem_toArray, List.getElem_cons_zero, List.getElem_cons_succ, List.setIfInBounds_toArray, List.set_cons_zero, List.set_cons_succ]
                refine wpAnyH_take (i := 29) (v := .string (strOfNums B5)) rfl (by kernel_rfl) (by kernel_rfl) (by kernel_rfl) (fun _ _ _ h => h) (Or.inl ⟨by rfl, fun w _ => by go_simp; omega⟩) hS ?_
                try simp only [Act.put, List.getElem_toArray, List.getElem_cons_zero, List.getElem_cons_succ, List.setIfInBounds_toArray, List.set_cons_zero, List.set_cons_succ]
                refine wpAnyH_take (i := 30) (v := .string (strOfNums Y')) rfl (by kernel_rfl) (by kernel_rfl) (by kernel_rfl) (fun _ _ _ h => h) (Or.inl ⟨by rfl, fun w _ => by go_simp; omega⟩) hS ?_
                try simp only [Act.put, List.getElem_toArray, List.getElem_cons_zero, List.getElem_cons_succ, List.setIfInBounds_toArray, List.set_cons_zero, List.set_cons_succ]
                refine wpAnyH_take (i := 31) (v := .string (strOfNums Y')) rfl (by kernel_rfl) (by kernel_rfl) (by kernel_rfl) (fun _ _ _ h => h) (Or.inl ⟨by rfl, fun w _ => by go_simp⟩) hS ?_
                try simp only [Act.put, List.getElem_toArray, List.getElem_cons_zero, List.getElem_cons_succ, List.setIfInBounds_toArray, List.set_cons_zero, List.set_cons_succ]
                refine wpAnyH_done (by kernel_rfl) ?_ _
                go_wp2
                go_roundw
                case rel => exact ⟨k + 1, by omega, by go_num, by rw [HY'.out], hS.2.1, hS.2.2⟩
                case measure => simp [intOf]; omega
              ) AllReadyH.nil))
            ) AllReadyH.nil))
          ) (AllReadyH.cons rfl (fun K hK => by
            have ngb := hS.2.2.size
            have ngbs0 := hS.1.lt
            have ngbs1 := hS.2.1.lt
            have rb : Row (w1_4.alloc (.cells #[.int .u8 ns, .int .u8 z] 5)) w1_4.heap.size #[.int .u8 ns, .int .u8 z] 5 := Row.new _ _ _
            go_simp
            refine hK.out _ _ (⟨hS.1.alloc _, hS.2.1.alloc _, hS.2.2.alloc hS.2.2.size _⟩) fun hS => ?_
            try simp only [Act.put, List.getElem_toArray, List.getElem_cons_zero, List.getElem_cons_succ, List.setIfInBounds_toArray, List.set_cons_zero, List.set_cons_succ]
            generalize w1_4.alloc (.cells #[.int .u8 ns, .int .u8 z] 5) = w2_24 at rb  hS ⊢
            generalize w1_4.heap.size = gb at rb ngb ngbs0 ngbs1 ⊢
            refine wpAnyH_ready (rs := [9, 25]) (by kernel_rfl) (by simp) ?_
            exact (AllReadyH.cons rfl (fun K hK => by
              go_simp
              go_at_call 44
              refine Calls.mono (P2.out _) ?_
              rintro e w3_9 ⟨rfl, hcb⟩
              have rb := rb.below hcb rb.lt
              refine hK.out _ _ (⟨hS.1.below hcb hS.1.lt, hS.2.1.below hcb hS.2.1.lt, hS.2.2.trans (hcb.mono hS.2.2.size)⟩) fun hS => ?_
              try simp only [Act.put, List.getElem_toArray, List.getElem_cons_zero, List.getElem_cons_succ, List.setIfInBounds_toArray, List.set_cons_zero, List.set_cons_succ]
              clear hcb
              refine wpAnyH_take (i := 10) (v := .string (strOfNums B2)) rfl (by kernel_rfl) (by kernel_rfl) (by kernel_rfl) (fun _ _ _ h => h) (Or.inl ⟨by rfl, fun w _ => by go_simp⟩) hS ?_
              try simp only [Act.put, List.getElem_toArray, List.getElem_cons_zero, List.getElem_cons_succ, List.setIfInBounds_toArray, List.set_cons_zero, List.set_cons_succ]
              refine wpAnyH_ready (rs := [15, 25]) (by kernel_rfl) (by simp) ?_
              exact (AllReadyH.cons rfl (fun K hK => by
                go_simp
                go_at_call 44
                refine Calls.mono (P3.out _) ?_
                rintro e w4_15 ⟨rfl, hcb⟩
                have rb := rb.below hcb rb.lt
                refine hK.out _ _ (⟨hS.1.below hcb hS.1.lt, hS.2.1.below hcb hS.2.1.lt, hS.2.2.trans (hcb.mono hS.2.2.size)⟩) fun hS => ?_
                try simp only [Act.put, List.getElem_toArray, List.getElem_cons_zero, List.getElem_cons_succ, List.setIfInBounds_toArray, List.set_cons_zero, List.set_cons_succ]
                clear hcb
                refine wpAnyH_take (i := 16) (v := .string (strOfNums B3)) rfl (by kernel_rfl) (by kernel_rfl) (by kernel_rfl) (fun _ _ _ h => h) (Or.inl ⟨by rfl, fun w _ => by go_simp⟩) hS ?_
                try simp only [Act.put, List.getElem_toArray, List.getElem_cons_zero, List.getElem_cons_succ, List.setIfInBounds_toArray, List.set_cons_zero, List.set_cons_succ]
                refine wpAnyH_ready (rs := [25]) (by kernel_rfl) (by simp) ?_
                refine AllReadyH.cons rfl (fun K hK => ?_) AllReadyH.nil
                have cc := str_row (ys := [ns, z]) rb 2 2 rfl
                go_simp
                refine hK.out _ _ (hS) fun hS => ?_
                try simp only [Act.put, List.getElem_toArray, List.getElem_cons_zero, List.getElem_cons_succ, List.setIfInBounds_toArray, List.set_cons_zero, List.set_cons_succ]
                clear cc
                refine wpAnyH_take (i := 26) (v := .string (strOfNums B4)) rfl (by kernel_rfl) (by kernel_rfl) (by kernel_rfl) (fun _ _ _ h => h) (Or.inl ⟨by rfl, fun w _ => by go_simp⟩) hS ?_
                try simp only [Act.put, List.getElem_toArray, List.getElem_cons_zero, List.getElem_cons_succ, List.setIfInBounds_toArray, List.set_cons_zero, List.set_cons_succ]
                refine wpAnyH_take (i := 29) (v := .string (strOfNums B5)) rfl (by kernel_rfl) (by kernel_rfl) (by kernel_rfl) (fun _ _ _ h => h) (Or.inl ⟨by rfl, fun w _ => by go_simp; omega⟩) hS ?_
                try simp only [Act.put, List.getElem_toArray, List.getElem_cons_zero, List.getElem_cons_succ, List.setIfInBounds_toArray, List.set_cons_zero, List.set_cons_succ]
                refine wpAnyH_take (i := 30) (v := .string (strOfNums Y')) rfl (by kernel_rfl) (by kernel_rfl) (by kernel_rfl) (fun _ _ _ h => h) (Or.inl ⟨by rfl, fun w _ => by go_simp; omega⟩) hS ?_
                try simp only [Act.put, List.getElem_toArray, List.getElem_cons_zero, List.getElem_cons_succ, List.setIfInBounds_toArray, List.set_cons_zero, List.set_cons_succ]
                refine wpAnyH_take (i := 31) (v := .string (strOfNums Y')) rfl (by kernel_rfl) (by kernel_rfl) (by kernel_rfl) (fun _ _ _ h => h) (Or.inl ⟨by rfl, fun w _ => by go_simp⟩) hS ?_
                try simp only [Act.put, List.getElem_toArray, List.getElem_cons_zero, List.getElem_cons_succ, List.setIfInBounds_toArray, List.set_cons_zero, List.set_cons_succ]
                refine wpAnyH_done (by kernel_rfl) ?_ _
                go_wp2
                go_roundw
                case rel => exact ⟨k + 1, by omega, by go_num, by rw [HY'.out], hS.2.1, hS.2.2⟩
                case measure => simp [intOf]; omega
              ) (AllReadyH.cons rfl (fun K hK => by
                have cc := str_row (ys := [ns, z]) rb 2 2 rfl
                go_simp
                refine hK.out _ _ (hS) fun hS => ?_
                try simp only [Act.put, List.getElem_toArray, List.getElem_cons_zero, List.getElem_cons_succ, List.setIfInBounds_toArray, List.set_cons_zero, List.set_cons_succ]
                clear cc
                refine wpAnyH_ready (rs := [15]) (by kernel_rfl) (by simp) ?_
                refine AllReadyH.cons rfl (fun K hK => ?_) AllReadyH.nil
                go_simp
                go_at_call 44
                refine Calls.mono (P3.out _) ?_
                rintro e w5_15 ⟨rfl, hcb⟩
                have rb := rb.below hcb rb.lt
                refine hK.out _ _ (⟨hS.1.below hcb hS.1.lt, hS.2.1.below hcb hS.2.1.lt, hS.2.2.trans (hcb.mono hS.2.2.size)⟩) fun hS => ?_
                try simp only [Act.put, List.getElem_toArray, List.getElem_cons_zero, List.getElem_cons_succ, List.setIfInBounds_toArray, List.set_cons_zero, List.set_cons_succ]
                clear hcb
                refine wpAnyH_take (i := 16) (v := .string (strOfNums B3)) rfl (by kernel_rfl) (by kernel_rfl) (by kernel_rfl) (fun _ _ _ h => h) (Or.inl ⟨by rfl, fun w _ => by go_simp⟩) hS ?_
                try simp only [Act.put, List.getElem_toArray, List.getElem_cons_zero, List.getElem_cons_succ, List.setIfInBounds_toArray, List.set_cons_zero, List.set_cons_succ]
                refine wpAnyH_take (i := 26) (v := .string (strOfNums B4)) rfl (by kernel_rfl) (by kernel_rfl) (by kernel_rfl) (fun _ _ _ h => h) (Or.inl ⟨by rfl, fun w _ => by go_simp⟩) hS ?_
                try simp only [Act.put, List.getElem_toArray, List.getElem_cons_zero, List.getElem_cons_succ, List.setIfInBounds_toArray, List.set_cons_zero, List.set_cons_succ]
                refine wpAnyH_take (i := 29) (v := .string (strOfNums B5)) rfl (by kernel_rfl) (by kernel_rfl) (by kernel_rfl) (fun _ _ _ h => h) (Or.inl ⟨by rfl, fun w _ => by go_simp; omega⟩) hS ?_
                try simp only [Act.put, List.getElem_toArray, List.getElem_cons_zero, List.getElem_cons_succ, List.setIfInBounds_toArray, List.set_cons_zero, List.set_cons_succ]
                refine wpAnyH_take (i := 30) (v := .string (strOfNums Y')) rfl (by kernel_rfl) (by kernel_rfl) (by kernel_rfl) (fun _ _ _ h => h) (Or.inl ⟨by rfl, fun w _ => by go_simp; omega⟩) hS ?_
                try simp only [Act.put, List.getElem_toArray, List.getElem_cons_zero, List.getElem_cons_succ, List.setIfInBounds_toArray, List.set_cons_zero, List.set_cons_succ]
                refine wpAnyH_take (i := 31) (v := .string (strOfNums Y')) rfl (by kernel_rfl) (by kernel_rfl) (by kernel_rfl) (fun _ _ _ h => h) (Or.inl ⟨by rfl, fun w _ => by go_simp⟩) hS ?_
                try simp only [Act.put, List.getElem_toArray, List.getElem_cons_zero, List.getElem_cons_succ, List.setIfInBounds_toArray, List.set_cons_zero, List.set_cons_succ]
                refine wpAnyH_done (by kernel_rfl) ?_ _
                go_wp2
                go_roundw
                case rel => exact ⟨k + 1, by omega, by go_num, by rw [HY'.out], hS.2.1, hS.2.2⟩
                case measure => simp [intOf]; omega
              ) AllReadyH.nil))
            ) (AllReadyH.cons rfl (fun K hK => by
              have cc := str_row (ys := [ns, z]) rb 2 2 rfl
              go_simp
              refine hK.out _ _ (hS) fun hS => ?_
              try simp only [Act.put, List.getElem_toArray, List.getElem_cons_zero, List.getElem_cons_succ, List.setIfInBounds_toArray, List.set_cons_zero, List.set_cons_succ]
              clear cc
              refine wpAnyH_ready (rs := [9]) (by kernel_rfl) (by simp) ?_
              refine AllReadyH.cons rfl (fun K hK => ?_) AllReadyH.nil
              go_simp
              go_at_call 44
              refine Calls.mono (P2.out _) ?_
              rintro e w4_9 ⟨rfl, hcb⟩
              have rb := rb.below hcb rb.lt
              refine hK.out _ _ (⟨hS.1.below hcb hS.1.lt, hS.2.1.below hcb hS.2.1.lt, hS.2.2.trans (hcb.mono hS.2.2.size)⟩) fun hS => ?_
              try simp only [Act.put, List.getElem_toArray, List.getElem_cons_zero, List.getElem_cons_succ, List.setIfInBounds_toArray, List.set_cons_zero, List.set_cons_succ]
              clear hcb
              refine wpAnyH_take (i := 10) (v := .string (strOfNums B2)) rfl (by kernel_rfl) (by kernel_rfl) (by kernel_rfl) (fun _ _ _ h => h) (Or.inl ⟨by rfl, fun w _ => by go_simp⟩) hS ?_
              try simp only [Act.put, List.getElem_toArray, List.getElem_cons_zero, List.getElem_cons_succ, List.setIfInBounds_toArray, List.set_cons_zero, List.set_cons_succ]
              refine wpAnyH_ready (rs := [15]) (by kernel_rfl) (by simp) ?_
              refine AllReadyH.cons rfl (fun K hK => ?_) AllReadyH.nil
              go_simp
              go_at_call 44
              refine Calls.mono (P3.out _) ?_
              rintro e w5_15 ⟨rfl, hcb⟩
              have rb := rb.below hcb rb.lt
              refine hK.out _ _ (⟨hS.1.below hcb hS.1.lt, hS.2.1.below hcb hS.2.1.lt, hS.2.2.trans (hcb.mono hS.2.2.size)⟩) fun hS => ?_
              try simp only [Act.put, List.getElem_toArray, List.getElem_cons_zero, List.getElem_cons_succ, List.setIfInBounds_toArray, List.set_cons_zero, List.set_cons_succ]
              clear hcb
              refine wpAnyH_take (i := 16) (v := .string (strOfNums B3)) rfl (by kernel_rfl) (by kernel_rfl) (by kernel_rfl) (fun _ _ _ h => h) (Or.inl ⟨by rfl, fun w _ => by go_simp⟩) hS ?_
              try simp only [Act.put, List.getElem_toArray, List.getElem_cons_zero, List.getElem_cons_succ, List.setIfInBounds_toArray, List.set_cons_zero, List.set_cons_succ]
              refine wpAnyH_take (i := 26) (v := .string (strOfNums B4)) rfl (by kernel_rfl) (by kernel_rfl) (by kernel_rfl) (fun _ _ _ h => h) (Or.inl ⟨by rfl, fun w _ => by go_simp⟩) hS ?_
              try simp only [Act.put, List.getElem_toArray, List.getElem_cons_zero, List.getElem_cons_succ, List.setIfInBounds_toArray, List.set_cons_zero, List.set_cons_succ]
              refine wpAnyH_take (i := 29) (v := .string (strOfNums B5)) rfl (by kernel_rfl) (by kernel_rfl) (by kernel_rfl) (fun _ _ _ h => h) (Or.inl ⟨by rfl, fun w _ => by go_simp; omega⟩) hS ?_
              try simp only [Act.put, List.getElem_toArray, List.getElem_cons_zero, List.getElem_cons_succ, List.setIfInBounds_toArray, List.set_cons_zero, List.set_cons_succ]
              refine wpAnyH_take (i := 30) (v := .string (strOfNums Y')) rfl (by kernel_rfl) (by kernel_rfl) (by kernel_rfl) (fun _ _ _ h => h) (Or.inl ⟨by rfl, fun w _ => by go_simp; omega⟩) hS ?_
              try simp only [Act.put, List.getElem_toArray, List.getElem_cons_zero, List.getElem_cons_succ, List.setIfInBounds_toArray, List.set_cons_zero, List.set_cons_succ]
              refine wpAnyH_take (i := 31) (v := .string (strOfNums Y')) rfl (by kernel_rfl) (by kernel_rfl) (by kernel_rfl) (fun _ _ _ h => h) (Or.inl ⟨by rfl, fun w _ => by go_simp⟩) hS ?_
              try simp only [Act.put, List.getElem_toArray, List.getElem_cons_zero, List.getElem_cons_succ, List.setIfInBounds_toArray, List.set_cons_zero, List.set_cons_succ]
              refine wpAnyH_done (by kernel_rfl) ?_ _
              go_wp2
              go_roundw
              case rel => exact ⟨k + 1, by omega, by go_num, by rw [HY'.out], hS.2.1, hS.2.2⟩
              case measure => simp [intOf]; omega
            ) AllReadyH.nil))
          ) AllReadyH.nil))
        ) (AllReadyH.cons rfl (fun K hK => by
          have ngb := hS.2.2.size
          have ngbs0 := hS.1.lt
          have ngbs1 := hS.2.1.lt
          have rb : Row (wd.alloc (.cells #[.int .u8 ns, .int .u8 z] 5)) wd.heap.size #[.int .u8 ns, .int .u8 z] 5 := Row.new _ _ _
          go_simp
          refine hK.out _ _ (⟨hS.1.alloc _, hS.2.1.alloc _, hS.2.2.alloc hS.2.2.size _⟩) fun hS => ?_
          try simp only [Act.put, List.getElem_toArray, List.getElem_cons_zero, List.getElem_cons_succ, List.setIfInBounds_toArray, List.set_cons_zero, List.set_cons_succ]
          generalize wd.alloc (.cells #[.int .u8 ns, .int .u8 z] 5) = w1_24 at rb  hS ⊢
          generalize wd.heap.size = gb at rb ngb ngbs0 ngbs1 ⊢
          refine wpAnyH_ready (rs := [4, 25]) (by kernel_rfl) (by simp) ?_
          exact (AllReadyH.cons rfl (fun K hK => by
            go_simp
            go_at_call 44
            refine Calls.mono (P1.out _) ?_
            rintro e w2_4 ⟨rfl, hcb⟩
            have rb := rb.below hcb rb.lt
            refine hK.out _ _ (⟨hS.1.below hcb hS.1.lt, hS.2.1.below hcb hS.2.1.lt, hS.2.2.trans (hcb.mono hS.2.2.size)⟩) fun hS => ?_
            try simp only [Act.put, List.getElem_toArray, List.getElem_cons_zero, List.getElem_cons_succ, List.setIfInBounds_toArray, List.set_cons_zero, List.set_cons_succ]
            clear hcb
            refine wpAnyH_take (i := 5) (v := .string (strOfNums B1)) rfl (by kernel_rfl) (by kernel_rfl) (by kernel_rfl) (fun _ _ _ h => h) (Or.inl ⟨by rfl, fun w _ => by go_simp⟩) hS ?_
            try simp only [Act.put, List.getElem_toArray, List.getElem_cons_zero, List.getElem_cons_succ, List.setIfInBounds_toArray, List.set_cons_zero, List.set_cons_succ]
            refine wpAnyH_ready (rs := [9, 25]) (by kernel_rfl) (by simp) ?_
            exact (AllReadyH.cons rfl (fun K hK => by
              go_simp
              go_at_call 44
              refine Calls.mono (P2.out _) ?_
              rintro e w3_9 ⟨rfl, hcb⟩
              have rb := rb.below hcb rb.lt
              refine hK.out _ _ (⟨hS.1.below hcb hS.1.lt, hS.2.1.below hcb hS.2.1.lt, hS.2.2.trans (hcb.mono hS.2.2.size)⟩) fun hS => ?_
              try simp only [Act.put, List.getElem_toArray, List.getElem_cons_zero, List.getElem_cons_succ, List.setIfInBounds_toArray, List.set_cons_zero, List.set_cons_succ]
              clear hcb
              refine wpAnyH_take (i := 10) (v := .string (strOfNums B2)) rfl (by kernel_rfl) (by kernel_rfl) (by kernel_rfl) (fun _ _ _ h => h) (Or.inl ⟨by rfl, fun w _ => by go_simp⟩) hS ?_
              try simp only [Act.put, List.getElem_toArray, List.getElem_cons_zero, List.getElem_cons_succ, List.setIfInBounds_toArray, List.set_cons_zero, List.set_cons_succ]
              refine wpAnyH_ready (rs := [15, 25]) (by kernel_rfl) (by simp) ?_
              exact (AllReadyH.cons rfl (fun K hK => by
                go_simp
                go_at_call 44
                refine Calls.mono (P3.out _) ?_
                rintro e w4_15 ⟨rfl, hcb⟩
                have rb := rb.below hcb rb.lt
                refine hK.out _ _ (⟨hS.1.below hcb hS.1.lt, hS.2.1.below hcb hS.2.1.lt, hS.2.2.trans (hcb.mono hS.2.2.size)⟩) fun hS => ?_
                try simp only [Act.put, List.getElem_toArray, List.getElem_cons_zero, List.getElem_cons_succ, List.setIfInBounds_toArray, List.set_cons_zero, List.set_cons_succ]
                clear hcb
                refine wpAnyH_take (i := 16) (v := .string (strOfNums B3)) rfl (by kernel_rfl) (by kernel_rfl) (by kernel_rfl) (fun _ _ _ h => h) (Or.inl ⟨by rfl, fun w _ => by go_simp⟩) hS ?_
                try simp only [Act.put, List.getElem_toArray, List.getElem_cons_zero, List.getElem_cons_succ, List.setIfInBounds_toArray, List.set_cons_zero, List.set_cons_succ]
                refine wpAnyH_ready (rs := [25]) (by kernel_rfl) (by simp) ?_
                refine AllReadyH.cons rfl (fun K hK => ?_) AllReadyH.nil
                have cc := str_row (ys := [ns, z]) rb 2 2 rfl
                go_simp
                refine hK.out _ _ (hS) fun hS => ?_
                try simp only [Act.put, List.getElem_toArray, List.getElem_cons_zero, List.getElem_cons_succ, List.setIfInBounds_toArray, List.set_cons_zero, List.set_cons_succ]
                clear cc
                refine wpAnyH_take (i := 26) (v := .string (strOfNums B4)) rfl (by kernel_rfl) (by kernel_rfl) (by kernel_rfl) (fun _ _ _ h => h) (Or.inl ⟨by rfl, fun w _ => by go_simp⟩) hS ?_
                try simp only [Act.put, List.getElem_toArray, List.getElem_cons_zero, List.getElem_cons_succ, List.setIfInBounds_toArray, List.set_cons_zero, List.set_cons_succ]
                refine wpAnyH_take (i := 29) (v := .string (strOfNums B5)) rfl (by kernel_rfl) (by kernel_rfl) (by kernel_rfl) (fun _ _ _ h => h) (Or.inl ⟨by rfl, fun w _ => by go_simp; omega⟩) hS ?_
                try simp only [Act.put, List.getElem_toArray, List.getElem_cons_zero, List.getElem_cons_succ, List.setIfInBounds_toArray, List.set_cons_zero, List.set_cons_succ]
                refine wpAnyH_take (i := 30) (v := .string (strOfNums Y')) rfl (by kernel_rfl) (by kernel_rfl) (by kernel_rfl) (fun _ _ _ h => h) (Or.inl ⟨by rfl, fun w _ => by go_simp; omega⟩) hS ?_
                try simp only [Act.put, List.getElem_toArray, List.getElem_cons_zero, List.getElem_cons_succ, List.setIfInBounds_toArray, List.set_cons_zero, List.set_cons_succ]
                refine wpAnyH_take (i := 31) (v := .string (strOfNums Y')) rfl (by kernel_rfl) (by kernel_rfl) (by kernel_rfl) (fun _ _ _ h => h) (Or.inl ⟨by rfl, fun w _ => by go_simp⟩) hS ?_
                try simp only [Act.put, List.getElem_toArray, List.getElem_cons_zero, List.getElem_cons_succ, List.setIfInBounds_toArray, List.set_cons_zero, List.set_cons_succ]
                refine wpAnyH_done (by kernel_rfl) ?_ _
                go_wp2
                go_roundw
                case rel => exact ⟨k + 1, by omega, by go_num, by rw [HY'.out], hS.2.1, hS.2.2⟩
                case measure => simp [intOf]; omega
              ) (AllReadyH.cons rfl (fun K hK => by
                have cc := str_row (ys := [ns, z]) rb 2 2 rfl
                go_simp
                refine hK.out _ _ (hS) fun hS => ?_
                try simp only [Act.put, List.getElem_toArray, List.getElem_cons_zero, List.getElem_cons_succ, List.setIfInBounds_toArray, List.set_cons_zero, List.set_cons_succ]
                clear cc
                refine wpAnyH_ready (rs := [15]) (by kernel_rfl) (by simp) ?_
                refine AllReadyH.cons rfl (fun K hK => ?_) AllReadyH.nil
                go_simp
                go_at_call 44
                refine Calls.mono (P3.out _) ?_
                rintro e w5_15 ⟨rfl, hcb⟩
                have rb := rb.below hcb rb.lt
                refine hK.out _ _ (⟨hS.1.below hcb hS.1.lt, hS.2.1.below hcb hS.2.1.lt, hS.2.2.trans (hcb.mono hS.2.2.size)⟩) fun hS => ?_
                try simp only [Act.put, List.getElem_toArray, List.getElem_cons_zero, List.getElem_cons_succ, List.setIfInBounds_toArray, List.set_cons_zero, List.set_cons_succ]
                clear hcb
                refine wpAnyH_take (i := 16) (v := .string (strOfNums B3)) rfl (by kernel_rfl) (by kernel_rfl) (by kernel_rfl) (fun _ _ _ h => h) (Or.inl ⟨by rfl, fun w _ => by go_simp⟩) hS ?_
                try simp only [Act.put, List.getElem_toArray, List.getElem_cons_zero, List.getElem_cons_succ, List.setIfInBounds_toArray, List.set_cons_zero, List.set_cons_succ]
                refine wpAnyH_take (i := 26) (v := .string (strOfNums B4)) rfl (by kernel_rfl) (by kernel_rfl) (by kernel_rfl) (fun _ _ _ h => h) (Or.inl ⟨by rfl, fun w _ => by go_simp⟩) hS ?_
                try simp only [Act.put, List.getElem_toArray, List.getElem_cons_zero, List.getElem_cons_succ, List.setIfInBounds_toArray, List.set_cons_zero, List.set_cons_succ]
                refine wpAnyH_take (i := 29) (v := .string (strOfNums B5)) rfl (by kernel_rfl) (by kernel_rfl) (by kernel_rfl) (fun _ _ _ h => h) (Or.inl ⟨by rfl, fun w _ => by go_simp; omega⟩) hS ?_
                try simp only [Act.put, List.getElem_toArray, List.getElem_cons_zero, List.getElem_cons_succ, List.setIfInBounds_toArray, List.set_cons_zero, List.set_cons_succ]
                refine wpAnyH_take (i := 30) (v := .string (strOfNums Y')) rfl (by kernel_rfl) (by kernel_rfl) (by kernel_rfl) (fun _ _ _ h => h) (Or.inl ⟨by rfl, fun w _ => by go_simp; omega⟩) hS ?_
                try simp only [Act.put, List.getElem_toArray, List.getElem_cons_zero, List.getElem_cons_succ, List.setIfInBounds_toArray, List.set_cons_zero, List.set_cons_succ]
                refine wpAnyH_take (i := 31) (v := .string (strOfNums Y')) rfl (by kernel_rfl) (by kernel_rfl) (by kernel_rfl) (fun _ _ _ h => h) (Or.inl ⟨by rfl, fun w _ => by go_simp⟩) hS ?_
                try simp only [Act.put, List.getElem_toArray, List.getElem_cons_zero, List.getElem_cons_succ, List.setIfInBounds_toArray, List.set_cons_zero, List.set_cons_succ]
                refine wpAnyH_done (by kernel_rfl) ?_ _
                go_wp2
                go_roundw
                case rel => exact ⟨k + 1, by omega, by go_num, by rw [HY'.out], hS.2.1, hS.2.2⟩
                case measure => simp [intOf]; omega
              ) AllReadyH.nil))
            ) (AllReadyH.cons rfl (fun K hK => by
              have cc := str_row (ys := [ns, z]) rb 2 2 rfl
              go_simp
              refine hK.out _ _ (hS) fun hS => ?_
              try simp only [Act.put, List.getElem_toArray, List.getElem_cons_zero, List.getElem_cons_succ, List.setIfInBounds_toArray, List.set_cons_zero, List.set_cons_succ]
              clear cc
              refine wpAnyH_ready (rs := [9]) (by kernel_rfl) (by simp) ?_
              refine AllReadyH.cons rfl (fun K hK => ?_) AllReadyH.nil
              go_simp
              go_at_call 44
              refine Calls.mono (P2.out _) ?_
              rintro e w4_9 ⟨rfl, hcb⟩
              have rb := rb.below hcb rb.lt
              refine hK.out _ _ (⟨hS.1.below hcb hS.1.lt, hS.2.1.below hcb hS.2.1.lt, hS.2.2.trans (hcb.mono hS.2.2.size)⟩) fun hS => ?_
              try simp only [Act.put, List.getElem_toArray, List.getElem_cons_zero, List.getElem_cons_succ, List.setIfInBounds_toArray, List.set_cons_zero, List.set_cons_succ]
              clear hcb
              refine wpAnyH_take (i := 10) (v := .string (strOfNums B2)) rfl (by kernel_rfl) (by kernel_rfl) (by kernel_rfl) (fun _ _ _ h => h) (Or.inl ⟨by rfl, fun w _ => by go_simp⟩) hS ?_
              try simp only [Act.put, List.getElem_toArray, List.getElem_cons_zero, List.getElem_cons_succ, List.setIfInBounds_toArray, List.set_cons_zero, List.set_cons_succ]
              refine wpAnyH_ready (rs := [15]) (by kernel_rfl) (by simp) ?_
              refine AllReadyH.cons rfl (fun K hK => ?_) AllReadyH.nil
              go_simp
              go_at_call 44
              refine Calls.mono (P3.out _) ?_
              rintro e w5_15 ⟨rfl, hcb⟩
              have rb := rb.below hcb rb.lt
              refine hK.out _ _ (⟨hS.1.below hcb hS.1.lt, hS.2.1.below hcb hS.2.1.lt, hS.2.2.trans (hcb.mono hS.2.2.size)⟩) fun hS => ?_
              try simp only [Act.put, List.getElem_toArray, List.getElem_cons_zero, List.getElem_cons_succ, List.setIfInBounds_toArray, List.set_cons_zero, List.set_cons_succ]
              clear hcb
              refine wpAnyH_take (i := 16) (v := .string (strOfNums B3)) rfl (by kernel_rfl) (by kernel_rfl) (by kernel_rfl) (fun _ _ _ h => h) (Or.inl ⟨by rfl, fun w _ => by go_simp⟩) hS ?_
              try simp only [Act.put, List.getElem_toArray, List.getElem_cons_zero, List.getElem_cons_succ, List.setIfInBounds_toArray, List.set_cons_zero, List.set_cons_succ]
              refine wpAnyH_take (i := 26) (v := .string (strOfNums B4)) rfl (by kernel_rfl) (by kernel_rfl) (by kernel_rfl) (fun _ _ _ h => h) (Or.inl ⟨by rfl, fun w _ => by go_simp⟩) hS ?_
              try simp only [Act.put, List.getElem_toArray, List.getElem_cons_zero, List.getElem_cons_succ, List.setIfInBounds_toArray, List.set_cons_zero, List.set_cons_succ]
              refine wpAnyH_take (i := 29) (v := .string (strOfNums B5)) rfl (by kernel_rfl) (by kernel_rfl) (by kernel_rfl) (fun _ _ _ h => h) (Or.inl ⟨by rfl, fun w _ => by go_simp; omega⟩) hS ?_
              try simp only [Act.put, List.getElem_toArray, List.getElem_cons_zero, List.getElem_cons_succ, List.setIfInBounds_toArray, List.set_cons_zero, List.set_cons_succ]
              refine wpAnyH_take (i := 30) (v := .string (strOfNums Y')) rfl (by kernel_rfl) (by kernel_rfl) (by kernel_rfl) (fun _ _ _ h => h) (Or.inl ⟨by rfl, fun w _ => by go_simp; omega⟩) hS ?_
              try simp only [Act.put, List.getElem_toArray, List.getElem_cons_zero, List.getElem_cons_succ, List.setIfInBounds_toArray, List.set_cons_zero, List.set_cons_succ]
              refine wpAnyH_take (i := 31) (v := .string (strOfNums Y')) rfl (by kernel_rfl) (by kernel_rfl) (by kernel_rfl) (fun _ _ _ h => h) (Or.inl ⟨by rfl, fun w _ => by go_simp⟩) hS ?_
              try simp only [Act.put, List.getElem_toArray, List.getElem_cons_zero, List.getElem_cons_succ, List.setIfInBounds_toArray, List.set_cons_zero, List.set_cons_succ]
              refine wpAnyH_done (by kernel_rfl) ?_ _
              go_wp2
              go_roundw
              case rel => exact ⟨k + 1, by omega, by go_num, by rw [HY'.out], hS.2.1, hS.2.2⟩
              case measure => simp [intOf]; omega
            ) AllReadyH.nil))
          ) (AllReadyH.cons rfl (fun K hK => by
            have cc := str_row (ys := [ns, z]) rb 2 2 rfl
            go_simp
            refine hK.out _ _ (hS) fun hS => ?_
            try simp only [Act.put, List.getElem_toArray, List.getElem_cons_zero, List.getElem_cons_succ, List.setIfInBounds_toArray, List.set_cons_zero, List.set_cons_succ]
            clear cc
            refine wpAnyH_ready (rs := [4]) (by kernel_rfl) (by simp) ?_
            refine AllReadyH.cons rfl (fun K hK => ?_) AllReadyH.nil
            go_simp
            go_at_call 44
            refine Calls.mono (P1.out _) ?_
            rintro e w3_4 ⟨rfl, hcb⟩
            have rb := rb.below hcb rb.lt
            refine hK.out _ _ (⟨hS.1.below hcb hS.1.lt, hS.2.1.below hcb hS.2.1.lt, hS.2.2.trans (hcb.mono hS.2.2.size)⟩) fun hS => ?_
            try simp only [Act.put, List.getElem_toArray, List.getElem_cons_zero, List.getElem_cons_succ, List.setIfInBounds_toArray, List.set_cons_zero, List.set_cons_succ]
            clear hcb
            refine wpAnyH_take (i := 5) (v := .string (strOfNums B1)) rfl (by kernel_rfl) (by kernel_rfl) (by kernel_rfl) (fun _ _ _ h => h) (Or.inl ⟨by rfl, fun w _ => by go_simp⟩) hS ?_
            try simp only [Act.put, List.getElem_toArray, List.getElem_cons_zero, List.getElem_cons_succ, List.setIfInBounds_toArray, List.set_cons_zero, List.set_cons_succ]
            refine wpAnyH_ready (rs := [9]) (by kernel_rfl) (by simp) ?_
            refine AllReadyH.cons rfl (fun K hK => ?_) AllReadyH.nil
            go_simp
            go_at_call 44
            refine Calls.mono (P2.out _) ?_
            rintro e w4_9 ⟨rfl, hcb⟩
            have rb := rb.below hcb rb.lt
            refine hK.out _ _ (⟨hS.1.below hcb hS.1.lt, hS.2.1.below hcb hS.2.1.lt, hS.2.2.trans (hcb.mono hS.2.2.size)⟩) fun hS => ?_
            try simp only [Act.put, List.getElem_toArray, List.getElem_cons_zero, List.getElem_cons_succ, List.setIfInBounds_toArray, List.set_cons_zero, List.set_cons_succ]
            clear hcb
            refine wpAnyH_take (i := 10) (v := .string (strOfNums B2)) rfl (by kernel_rfl) (by kernel_rfl) (by kernel_rfl) (fun _ _ _ h => h) (Or.inl ⟨by rfl, fun w _ => by go_simp⟩) hS ?_
            try simp only [Act.put, List.getElem_toArray, List.getElem_cons_zero, List.getElem_cons_succ, List.setIfInBounds_toArray, List.set_cons_zero, List.set_cons_succ]
            refine wpAnyH_ready (rs := [15]) (by kernel_rfl) (by simp) ?_
            refine AllReadyH.cons rfl (fun K hK => ?_) AllReadyH.nil
            go_simp
            go_at_call 44
            refine Calls.mono (P3.out _) ?_
            rintro e w5_15 ⟨rfl, hcb⟩
            have rb := rb.below hcb rb.lt
            refine hK.out _ _ (⟨hS.1.below hcb hS.1.lt, hS.2.1.below hcb hS.2.1.lt, hS.2.2.trans (hcb.mono hS.2.2.size)⟩) fun hS => ?_
            try simp only [Act.put, List.getElem_toArray, List.getElem_cons_zero, List.getElem_cons_succ, List.setIfInBounds_toArray, List.set_cons_zero, List.set_cons_succ]
            clear hcb
            refine wpAnyH_take (i := 16) (v := .string (strOfNums B3)) rfl (by kernel_rfl) (by kernel_rfl) (by kernel_rfl) (fun _ _ _ h => h) (Or.inl ⟨by rfl, fun w _ => by go_simp⟩) hS ?_
            try simp only [Act.put, List.getElem_toArray, List.getElem_cons_zero, List.getElem_cons_succ, List.setIfInBounds_toArray, List.set_cons_zero, List.set_cons_succ]
            refine wpAnyH_take (i := 26) (v := .string (strOfNums B4)) rfl (by kernel_rfl) (by kernel_rfl) (by kernel_rfl) (fun _ _ _ h => h) (Or.inl ⟨by rfl, fun w _ => by go_simp⟩) hS ?_
            try simp only [Act.put, List.getElem_toArray, List.getElem_cons_zero, List.getElem_cons_succ, List.setIfInBounds_toArray, List.set_cons_zero, List.set_cons_succ]
            refine wpAnyH_take (i := 29) (v := .string (strOfNums B5)) rfl (by kernel_rfl) (by kernel_rfl) (by kernel_rfl) (fun _ _ _ h => h) (Or.inl ⟨by rfl, fun w _ => by go_simp; omega⟩) hS ?_
            try simp only [Act.put, List.getElem_toArray, List.getElem_cons_zero, List.getElem_cons_succ, List.setIfInBounds_toArray, List.set_cons_zero, List.set_cons_succ]
            refine wpAnyH_take (i := 30) (v := .string (strOfNums Y')) rfl (by kernel_rfl) (by kernel_rfl) (by kernel_rfl) (fun _ _ _ h => h) (Or.inl ⟨by rfl, fun w _ => by go_simp; omega⟩) hS ?_
            try simp only [Act.put, List.getElem_toArray, List.getElem_cons_zero, List.getElem_cons_succ, List.setIfInBounds_toArray, List.set_cons_zero, List.set_cons_succ]
            refine wpAnyH_take (i := 31) (v := .string (strOfNums Y')) rfl (by kernel_rfl) (by kernel_rfl) (by kernel_rfl) (fun _ _ _ h => h) (Or.inl ⟨by rfl, fun w _ => by go_simp⟩) hS ?_
            try simp only [Act.put, List.getElem_toArray, List.getElem_cons_zero, List.getElem_cons_succ, List.setIfInBounds_toArray, List.set_cons_zero, List.set_cons_succ]
            refine wpAnyH_done (by kernel_rfl) ?_ _
            go_wp2
            go_roundw
            case rel => exact ⟨k + 1, by omega, by go_num, by rw [HY'.out], hS.2.1, hS.2.2⟩
            case measure => simp [intOf]; omega
          ) AllReadyH.nil))
        ) AllReadyH.nil))
    · obtain rfl : k = n := by omega
      have ht : os.take k = os := by rw [← HN.out, List.take_length]
      rw [ht]
      have hkn' : ¬ (k : Int) < (k : Int) := by omega
      go_wp2
      go_ret
      exact ⟨rfl, rb⟩
theorem rsize_any (lsn : Int) (v : Value) (os : List O) (w : World) (ho : Olds w v os) (hf : ∀ o ∈ os, o.Fits) (hn : os.length ≤ 1000) (hd : ∀ o ∈ os, o.delta.size ≤ 140737488355328) :
    Calls Try.prog 40 #[.agg #[.int .u64 lsn, v]] w fun e w' => e = .returned (.int .i64 (psize os)) ∧ Below w.heap.size w w' := by
  have HTX : Hid _ := fun (wa : World) (hb : Below w.heap.size w wa) => text_any lsn v os wa (ho.keep hb) hf hn hd
  obtain ⟨oa, cap, rfl, _⟩ := ho.hold
  have hle := oldsT_len os 140737488355328 hd os.length
  rw [List.take_length] at hle
  have hle2 : (oldsT os).length ≤ 1000 * (11 + 140737488355328) := Nat.le_trans hle (Nat.mul_le_mul_right _ hn)
  have hps := psize_is os
  have hul : (undoT os).length = 1 + (oldsT os).length := by unfold undoT; simp [low_length]
  obtain ⟨T, HT⟩ : ∃ T, Hid (strOfNums ([(os.length : Int) % 256] ++ oldsT os) = T) := ⟨_, rfl⟩
  have hzT : Hid (T.size = 1 + (oldsT os).length) := by show _ = _; rw [← HT.out, strOfNums_size, List.length_append]; rfl
  have hT2 : (T.size : Int) ≤ 200000000000000000 := by rw [hzT.out]; omega
  have HPS : Hid (psize os = 15 + (T.size : Int)) := by show _ = _; rw [hzT.out, hps, hul]
  rw [HT.out] at HTX
  clear hle hle2 hul hps hzT
  have e1 : IntKind.i64.wrap (15 + (T.size : Int)) = 15 + (T.size : Int) := by rw [IntKind.wrap_i64]; omega
  obtain ⟨n, HN⟩ : ∃ n, Hid (os.length = n) := ⟨_, rfl⟩
  rw [HN.out] at HTX hn ⊢
  have r0 : Row (w.alloc (.cells #[.int .u64 lsn, .slice oa n cap] 33)) w.heap.size #[.int .u64 lsn, .slice oa n cap] 33 := Row.new _ _ _
  have ab : Below w.heap.size w (w.alloc (.cells #[.int .u64 lsn, .slice oa n cap] 33)) := (Below.refl _ _).alloc (Nat.le_refl _) _
  go_enter Try.func40, Try.ntmps40
  go_wp2_with (first
    | (refine load_cells rfl 33 (.tmp 1) rfl w.heap.size rfl 33 #[.int .u64 lsn, .slice oa n cap] r0 2 Try.underlying33 rfl size33 rfl ?_)
    | (go_at_call 43; refine (HTX.out _ ab).mono ?_; clear HTX; rintro e w2 ⟨rfl, b2⟩))
  go_ret
  exact ⟨ret_int HPS.out.symm, ab.trans (b2.mono ab.size)⟩

set_option maxHeartbeats 4000000 in
theorem rmay_any (lsn : Int) (v : Value) (os : List O) (w : World) (ho : Olds w v os) (hf : ∀ o ∈ os, o.Fits) :
    Calls Try.prog 33 #[.agg #[.int .u64 lsn, v]] w fun e w' => e = .returned (.bool (may os)) ∧ Below w.heap.size w w' := by
  have HSZ : Hid _ := fun (wa : World) (hb : Below w.heap.size w wa) => rsize_any lsn v os wa (ho.keep hb) hf
  obtain ⟨oa, cap, rfl, hcs⟩ := ho.hold
  have HCS : Hid _ := hcs
  clear hcs ho hf
  obtain ⟨n, HN⟩ : ∃ n, Hid (os.length = n) := ⟨_, rfl⟩
  rw [HN.out] at HCS HSZ ⊢
  have hz := zero50
  have r0 : Row (w.alloc (.cells #[.int .u64 lsn, .slice oa n cap] 33)) w.heap.size #[.int .u64 lsn, .slice oa n cap] 33 := Row.new _ _ _
  have ab : Below w.heap.size w (w.alloc (.cells #[.int .u64 lsn, .slice oa n cap] 33)) := (Below.refl _ _).alloc (Nat.le_refl _) _
  have c0 := row_at r0 1 _ rfl
  by_cases h15 : n ≤ 15
  · have h15' : ¬ (n : Int) > 15 := by omega
    have HL0 : Hid (0 = n → lastLive os = true) := fun h => by
      have : os = [] := List.eq_nil_of_length_eq_zero (by rw [HN.out, ← h])
      rw [this]; rfl
    go_enter Try.func33, Try.ntmps33
    go_upto_region 1 with fail
    generalize w.alloc (.cells #[.int .u64 lsn, .slice oa n cap] 33) = w1 at r0 ab c0 ⊢
    go_wp2
    go_loopw [4] (fun d wr => ∃ (k : Nat), d = .int .i64 k ∧ k ≤ n ∧ Hid ((os.take k).all okO = true) ∧ Hid (k = n → lastLive os = true) ∧ Below w.heap.size w wr ∧ Row wr w.heap.size #[.int .u64 lsn, .slice oa n cap] 33) (fun d _ => n - (intOf d).toNat)
    case atStart => exact ⟨0, rfl, by omega, rfl, HL0.out, ab, r0⟩
    case round =>
      clear ab r0 c0 HL0
      obtain ⟨k, rfl, hk, HO, HLL, rb, r0⟩ := hrel
      by_cases hkn : k < n
      · have hkn' : (k : Int) < (n : Int) := by omega
        obtain ⟨a, l, p, t, np, ns, dl, rfl, he, hcell⟩ := HCS.out k hkn
        have hcw : ∀ j u, [Value.bool l, .int .u16 p, .int .u32 t, .int .u16 np, .int .u8 ns, .string dl][j]? = some u → wr.cell? ((a.add (k * 6)).add j) = some u := fun j u hj => cell_keep (hcell j u hj) rb
        have heq : ∀ w, (Op.equalIn 10000 50 (.agg #[.bool l, .int .u16 p, .int .u32 t, .int .u16 np, .int .u8 ns, .string dl]) (.agg #[.bool false, .int .u16 0, .int .u32 0, .int .u16 0, .int .u8 0, .string ByteArray.empty])).run Try.prog w = .ok (decide ((⟨l, p, t, np, ns, dl⟩ : O) = O.zero)) w := fun w => equal50 ⟨l, p, t, np, ns, dl⟩ O.zero w
        have tl : Hid (1 = 1) := rfl
        have HE := show Hid _ from he
        have cw := row_at r0 1 _ rfl
        clear he hcell
        have q1 : Row (wr.alloc (.cells #[.bool false, .int .u16 0, .int .u32 0, .int .u16 0, .int .u8 0, .string ByteArray.empty] 50)) wr.heap.size #[.bool false, .int .u16 0, .int .u32 0, .int .u16 0, .int .u8 0, .string ByteArray.empty] 50 := Row.new _ _ _
        go_upto_region 8 with (first
          | (have hh := tl; clear hh tl; refine wpList_load_any rfl 50 (.tmp 19) rfl (a.add (k * 6)) rfl [.bool l, .int .u16 p, .int .u32 t, .int .u16 np, .int .u8 ns, .string dl] _ hcw Try.underlying50 rfl size50 ?_)
          | (refine store_cells rfl 50 (.tmp 5) (.tmp 20) rfl wr.heap.size #[.bool l, .int .u16 p, .int .u32 t, .int .u16 np, .int .u8 ns, .string dl] rfl rfl 50 _ q1 6 size50 rfl rfl (by simp [Value.oneCell']) ?_))
        have q2 := q1.set #[.bool l, .int .u16 p, .int .u32 t, .int .u16 np, .int .u8 ns, .string dl]
        have hlt := r0.lt
        have d0 := (r0.alloc (.cells #[.bool false, .int .u16 0, .int .u32 0, .int .u16 0, .int .u8 0, .string ByteArray.empty] 50)).other (g := wr.heap.size) (by omega) #[.bool l, .int .u16 p, .int .u32 t, .int .u16 np, .int .u8 ns, .string dl]
        have db := below_setRow (rb.alloc rb.size (.cells #[.bool false, .int .u16 0, .int .u32 0, .int .u16 0, .int .u8 0, .string ByteArray.empty] 50)) rb.size #[.bool l, .int .u16 p, .int .u32 t, .int .u16 np, .int .u8 ns, .string dl]
        clear r0 rb q1 hcw cw
        generalize (wr.alloc (.cells #[.bool false, .int .u16 0, .int .u32 0, .int .u16 0, .int .u8 0, .string ByteArray.empty] 50)).setRow wr.heap.size #[.bool l, .int .u16 p, .int .u32 t, .int .u16 np, .int .u8 ns, .string dl] = w5 at q2 d0 db ⊢
        generalize wr.heap.size = go at q2 hlt ⊢
        have c0 := row_at q2 0 _ rfl
        have c5 := row_at q2 5 _ rfl
        have ew : IntKind.i64.wrap ((n : Int) - 1) = (n : Int) - 1 := by rw [IntKind.wrap_i64]; omega
        cases l
        · by_cases hk1 : k + 1 = n
          · have HM : Hid (may os = false) := by
              show _ = _
              unfold may
              rw [lastLive_succ (m := k) (by rw [HN.out, hk1]) HE.out]; simp
            subst hk1
            clear h15' hkn'
            have hm2 : IntKind.i64.wrap ((k : Int) + 1 - 1) = k := by rw [IntKind.wrap_i64]; omega
            clear ew
            go_wp2
            go_ret
            exact ⟨ret_bool HM.out.symm, db⟩
          · have hk2 : ¬ (k : Int) = (n : Int) - 1 := by omega
            have hk3 : ((k : Int) == (n : Int) - 1) = false := by simp [hk2]
            by_cases hzo : (⟨false, p, t, np, ns, dl⟩ : O) = O.zero
            · have hok : okO (⟨false, p, t, np, ns, dl⟩ : O) = true := by rw [hzo]; exact okO_zero
              have HA := show Hid _ from all_succ HE.out HO.out hok
              have HL1 : Hid (k + 1 = n → lastLive os = true) := fun h => absurd h hk1
              rw [decide_eq_true hzo] at heq
              have hdl : (dl.size : Int) = 0 := by
                have : dl = ByteArray.empty := congrArg O.delta hzo
                rw [this]; rfl
              clear hzo hok hk1
              go_wp2_with (first
                | (refine load_cells_g rfl 50 (.tmp 5) rfl go rfl 50 #[.bool false, .int .u16 p, .int .u32 t, .int .u16 np, .int .u8 ns, .string dl] q2 6 Try.underlying50 rfl size50 rfl ?_)
                | (refine build_none_g rfl 50 rfl _ built50 ?_))
              go_roundw
              case rel => exact ⟨k + 1, by go_num, by omega, HA.out, HL1.out, db, d0⟩
              case measure => simp [intOf]; omega
            · have hok : okO (⟨false, p, t, np, ns, dl⟩ : O) = false := by unfold okO; rw [decide_eq_false hzo]; rfl
              have HM := show Hid _ from may_at HE.out hok
              rw [decide_eq_false hzo] at heq
              clear hzo hok hk1
              go_wp2_with (first
                | (refine load_cells_g rfl 50 (.tmp 5) rfl go rfl 50 #[.bool false, .int .u16 p, .int .u32 t, .int .u16 np, .int .u8 ns, .string dl] q2 6 Try.underlying50 rfl size50 rfl ?_)
                | (refine build_none_g rfl 50 rfl _ built50 ?_))
              go_ret
              exact ⟨ret_bool HM.out.symm, db⟩
        · have HL1 : Hid (k + 1 = n → lastLive os = true) := fun h => lastLive_succ (m := k) (by rw [HN.out, h]) HE.out
          by_cases hd : dl.size ≤ 66
          · have hok : okO (⟨true, p, t, np, ns, dl⟩ : O) = true := by unfold okO; simp [hd]
            have HA := show Hid _ from all_succ HE.out HO.out hok
            have hdl : ¬ (dl.size : Int) > 66 := by omega
            clear hok heq
            go_wp2
            go_roundw
            case rel => exact ⟨k + 1, by go_num, by omega, HA.out, HL1.out, db, d0⟩
            case measure => simp [intOf]; omega
          · have hok : okO (⟨true, p, t, np, ns, dl⟩ : O) = false := by unfold okO; simp; omega
            have HM := show Hid _ from may_at HE.out hok
            have hdl : (dl.size : Int) > 66 := by omega
            clear hok heq
            go_wp2
            go_ret
            exact ⟨ret_bool HM.out.symm, db⟩
      · obtain rfl : k = n := by omega
        have hkn' : ¬ (k : Int) < (k : Int) := by omega
        have ht : os.take k = os := by rw [← HN.out, List.take_length]
        have hall : os.all okO = true := by have := HO.out; rwa [ht] at this
        have hms : may os = decide (psize os ≤ 224) := by unfold may; rw [HN.out, HLL.out rfl, hall, decide_eq_true h15]; simp
        have hsz := HSZ.out wr rb (by omega) (fun o ho => by
          have := List.all_eq_true.1 hall o ho
          unfold okO at this
          simp at this
          omega)
        go_wp2_with (first
          | (refine load_cells rfl 33 (.tmp 1) rfl w.heap.size rfl 33 #[.int .u64 lsn, .slice oa k cap] r0 2 Try.underlying33 rfl size33 rfl ?_)
          | (go_at_call 40; refine hsz.mono ?_; rintro e w2 ⟨rfl, b2⟩))
        go_ret
        exact ⟨ret_bool hms.symm, rb.trans (b2.mono rb.size)⟩
  · have hm : may os = false := by unfold may; rw [HN.out, decide_eq_false h15]; simp
    have h15' : (n : Int) > 15 := by omega
    rw [hm]
    go_enter Try.func33, Try.ntmps33
    go_wp2
    go_ret
    exact ⟨rfl, ab⟩

end Go.Proofs.Ytddhjkgefninbaa
