/-
  LogGhosts: what a life has lost never comes again, though the next one lays a text that ends as the lost one did. No conditions.
-/
import Derived.Test.YtgnedbagelhcbaaJi
import Derived.Deep.OwnRows
namespace Go.Proofs.Ytgnedbagelhcbaa.logGhosts
open Go.ChangeShapes Go.WideShapes Go.ChangeAt Go.RowKit
open Go.Deep
set_option linter.unusedVariables false
set_option linter.unusedSimpArgs false

theorem own : ownKnob Try.prog.godebug = none := by kernel_rfl

set_option maxRecDepth 20000

theorem info5g : (Try.prog.info? 5).map (fun i => (i.zero, i.size, i.bytes)) = some (some (.int .u8 0), 1, 1) := by kernel_rfl
theorem size74 : (Try.prog.info? 74).map (·.size) = some 2 := by kernel_rfl
theorem made_zs (n : Nat) : madeCells #[.int .u8 0] n = bs (zs n) := by
  apply Array.ext
  · simp [madeCells, bs_size, zs_length]
  · intro i h1 h2
    simp [madeCells, bs, zs, Nat.mod_one]
def bitB (kz : Int) (n : Nat) : Bool := (bits BinOp.and IntKind.u8 (kz / 2 ^ n) 1 == 1)
/-- Behind the statement's first rows. -/
def P9 (w2 wx : World) (g1 : Nat) (RW : Array Value) (n : Nat) (S oth : ByteArray) (p : Value) : Prop := ∃ gA gB gT, p = .pointer (some ⟨gT, 0, none⟩) ∧ Row wx gA #[.string (strOfNums (zs n)), .string S] 9 ∧ Row wx gB #[.string oth] 9 ∧ Row wx gT #[.slice (some ⟨gA, 0, none⟩) 2 2, .slice (some ⟨gB, 0, none⟩) 1 1] 74 ∧ Row wx g1 RW 71 ∧ Below w2.heap.size w2 wx ∧ w2.heap.size ≤ gA ∧ w2.heap.size ≤ gB ∧ w2.heap.size ≤ gT
set_option maxHeartbeats 16000000 in
theorem walkIn (w : World) (ld at_ by_ f0 f1 k0 k1 : Int) (S : ByteArray) (hS1 : 1 ≤ S.size ∧ S.size ≤ 400) (hld : 0 ≤ ld ∧ ld ≤ 255) (hat : 0 ≤ at_ ∧ at_ ≤ 255) (hby : 0 ≤ by_ ∧ by_ ≤ 255) (hf0 : 0 ≤ f0 ∧ f0 ≤ 255) (hf1 : 0 ≤ f1 ∧ f1 ≤ 255) (hk0 : 0 ≤ k0 ∧ k0 ≤ 255) (hk1 : 0 ≤ k1 ∧ k1 ≤ 255) :
    Calls Try.prog 5 #[.agg #[.int .u8 ld, .string S, .int .u8 at_, .int .u8 by_, .int .u8 f0, .int .u8 f1, .int .u8 k0, .int .u8 k1]] w fun e w' => e = .returned (.bool true) ∧ Below w.heap.size w w' := by
  have HA : Hid _ := awake_any
  have HND : Hid (∀ wx, Calls Try.prog 9 #[.int .i64 16] wx fun e w' => e = .returned (.pointer (some ⟨wx.heap.size + 2, 0, none⟩)) ∧ DAt w' (wx.heap.size + 2) (Dsk.new 16) (Loc.new wx.heap.size) 0 ∧ Below wx.heap.size wx w') := fun wx => new_some 16 (by decide) (by decide) wx
  have q1 : Row (w.alloc (.cells #[.int .u8 ld, .string S, .int .u8 at_, .int .u8 by_, .int .u8 f0, .int .u8 f1, .int .u8 k0, .int .u8 k1] 71)) w.heap.size #[.int .u8 ld, .string S, .int .u8 at_, .int .u8 by_, .int .u8 f0, .int .u8 f1, .int .u8 k0, .int .u8 k1] 71 := Row.new _ _ _
  have qb : Below w.heap.size w (w.alloc (.cells #[.int .u8 ld, .string S, .int .u8 at_, .int .u8 by_, .int .u8 f0, .int .u8 f1, .int .u8 k0, .int .u8 k1] 71)) := (Below.refl _ _).alloc (Nat.le_refl _) _
  have h1' : ¬ (S.size : Int) < 1 := by omega
  have h2' : ¬ (400 : Int) < (S.size : Int) := by omega
  have hmod : at_.tmod (S.size : Int) = ((at_.toNat % S.size : Nat) : Int) := by
    rw [Int.tmod_eq_emod_of_nonneg hat.1]
    have e : at_ = ((at_.toNat : Nat) : Int) := by omega
    rw [e]; simp
  have hw5 : IntKind.i64.wrap at_ = at_ := by rw [IntKind.wrap_i64]; omega
  have hS0 : ¬ (S.size : Int) = 0 := by omega
  have hix := Nat.mod_lt at_.toNat (show 0 < S.size by omega)
  generalize at_.toNat % S.size = ix at hmod hix
  have hwx : IntKind.i64.wrap (ix : Int) = ix := by rw [IntKind.wrap_i64]; omega
  have hw1 : IntKind.i64.wrap ((ix : Int) + 1) = ix + 1 := by rw [IntKind.wrap_i64]; omega
  have HB1 : Hid (∃ bz : Int, bz = if by_ = 0 then 1 else by_) := ⟨_, rfl⟩
  go_enter Try.func5, Try.ntmps5
  go_upto_region 1 with fail
  generalize w.alloc (.cells #[.int .u8 ld, .string S, .int .u8 at_, .int .u8 by_, .int .u8 f0, .int .u8 f1, .int .u8 k0, .int .u8 k1] 71) = w1 at q1 qb ⊢
  have hg1 : w.heap.size ≤ w.heap.size := Nat.le_refl _
  obtain ⟨g1, Hg⟩ : ∃ g1, Hid (w.heap.size = g1) := ⟨_, rfl⟩
  rw [Hg.out] at q1 ⊢
  have hlt1 := q1.lt
  go_upto_region 2 with (go_at_call 9; refine Calls.mono (HND.out _) ?_; clear HND; rintro e w2 ⟨rfl, D2, B2⟩)
  have r1 := q1.below B2 q1.lt
  have b1 : Below w2.heap.size w2 w2 := Below.refl _ _
  have c1 := row_at r1 1 _ rfl
  have c2 := row_at r1 2 _ rfl
  have c3 := row_at r1 3 _ rfl
  go_upto_if 44 with fail
  clear c2 c3
  go_cut [4] from 43 to 44 (fun b wx => ∃ bz : Int, (0 ≤ bz ∧ bz ≤ 255) ∧ b = .int .u8 bz ∧ wx = w2)
  case first =>
    by_cases hb0 : by_ = 0
    · go_wp2
      go_meet
      exact ⟨1, by omega, rfl, rfl⟩
    · go_wp2
      go_meet
      exact ⟨by_, hby, rfl, rfl⟩
  case rest =>
    obtain ⟨bz, hbz, rfl, hww⟩ := hcut
    have hww2 := hww.symm
    clear hww
    subst hww2
    have c2 := row_at r1 2 _ rfl
    go_upto_region 8 with fail
    clear c1 c2
    obtain ⟨y, Hy⟩ : ∃ y : Int, Hid (((S[ix]'hix).toNat : Int) = y) := ⟨_, rfl⟩
    obtain ⟨xr, Hx⟩ : ∃ xr : Int, Hid (bits BinOp.xor IntKind.u8 y bz = xr) := ⟨_, rfl⟩
    refine wp_region_held_drew (S := fun w' => Row w' g1 #[.int .u8 ld, .string S, .int .u8 at_, .int .u8 by_, .int .u8 f0, .int .u8 f1, .int .u8 k0, .int .u8 k1] 71 ∧ Below w2.heap.size w2 w') (by kernel_rfl) ⟨r1, b1.drew⟩ fun hS => ?_
    generalize w2.drew = W0 at hS ⊢
    refine wpAnyH_take (i := 0) (v := .pointer (some ⟨g1, 1, none⟩)) rfl (by kernel_rfl) (by kernel_rfl) (by kernel_rfl) (fun _ _ _ h => h) (Or.inl ⟨by rfl, fun w _ => by go_simp⟩) hS ?_
    try simp only [Act.put, List.getElem_toArray, List.getElem_cons_zero, List.getElem_cons_succ, List.setIfInBounds_toArray, List.set_cons_zero, List.set_cons_succ]
    refine wpAnyH_take (i := 1) (v := .string S) rfl (by kernel_rfl) (by kernel_rfl) (by kernel_rfl) (fun _ _ _ h => h) (Or.inl ⟨by rfl, fun w h => by have c := row_at h.1 1 _ rfl; go_simp⟩) hS ?_
    try simp only [Act.put, List.getElem_toArray, List.getElem_cons_zero, List.getElem_cons_succ, List.setIfInBounds_toArray, List.set_cons_zero, List.set_cons_succ]
    refine wpAnyH_take (i := 2) (v := .int .i64 (ix : Int)) rfl (by kernel_rfl) (by kernel_rfl) (by kernel_rfl) (fun _ _ _ h => h) (Or.inl ⟨by rfl, fun w _ => by go_simp⟩) hS ?_
    try simp only [Act.put, List.getElem_toArray, List.getElem_cons_zero, List.getElem_cons_succ, List.setIfInBounds_toArray, List.set_cons_zero, List.set_cons_succ]
    refine wpAnyH_take (i := 3) (v := .string (S.extract 0 ix)) rfl (by kernel_rfl) (by kernel_rfl) (by kernel_rfl) (fun _ _ _ h => h) (Or.inl ⟨by rfl, fun w _ => by go_simp; intro h; omega⟩) hS ?_
    try simp only [Act.put, List.getElem_toArray, List.getElem_cons_zero, List.getElem_cons_succ, List.setIfInBounds_toArray, List.set_cons_zero, List.set_cons_succ]
    refine wpAnyH_take (i := 4) (v := .pointer (some ⟨g1, 1, none⟩)) rfl (by kernel_rfl) (by kernel_rfl) (by kernel_rfl) (fun _ _ _ h => h) (Or.inl ⟨by rfl, fun w _ => by go_simp⟩) hS ?_
    try simp only [Act.put, List.getElem_toArray, List.getElem_cons_zero, List.getElem_cons_succ, List.setIfInBounds_toArray, List.set_cons_zero, List.set_cons_succ]
    refine wpAnyH_take (i := 5) (v := .string S) rfl (by kernel_rfl) (by kernel_rfl) (by kernel_rfl) (fun _ _ _ h => h) (Or.inl ⟨by rfl, fun w h => by have c := row_at h.1 1 _ rfl; go_simp⟩) hS ?_
    try simp only [Act.put, List.getElem_toArray, List.getElem_cons_zero, List.getElem_cons_succ, List.setIfInBounds_toArray, List.set_cons_zero, List.set_cons_succ]
    refine wpAnyH_take (i := 6) (v := .int .i64 (ix : Int)) rfl (by kernel_rfl) (by kernel_rfl) (by kernel_rfl) (fun _ _ _ h => h) (Or.inl ⟨by rfl, fun w _ => by go_simp⟩) hS ?_
    try simp only [Act.put, List.getElem_toArray, List.getElem_cons_zero, List.getElem_cons_succ, List.setIfInBounds_toArray, List.set_cons_zero, List.set_cons_succ]
    refine wpAnyH_take (i := 7) (v := .int .u8 y) rfl (by kernel_rfl) (by kernel_rfl) (by kernel_rfl) (fun _ _ _ h => h) (Or.inl ⟨by rfl, fun w _ => by go_simp; exact Hy.out⟩) hS ?_
    try simp only [Act.put, List.getElem_toArray, List.getElem_cons_zero, List.getElem_cons_succ, List.setIfInBounds_toArray, List.set_cons_zero, List.set_cons_succ]
    refine wpAnyH_take (i := 8) (v := .int .u8 bz) rfl (by kernel_rfl) (by kernel_rfl) (by kernel_rfl) (fun _ _ _ h => h) (Or.inl ⟨by rfl, fun w _ => by go_simp⟩) hS ?_
    try simp only [Act.put, List.getElem_toArray, List.getElem_cons_zero, List.getElem_cons_succ, List.setIfInBounds_toArray, List.set_cons_zero, List.set_cons_succ]
    refine wpAnyH_take (i := 9) (v := .int .u8 xr) rfl (by kernel_rfl) (by kernel_rfl) (by kernel_rfl) (fun _ _ _ h => h) (Or.inl ⟨by rfl, fun w _ => by go_simp; exact Hx.out⟩) hS ?_
    try simp only [Act.put, List.getElem_toArray, List.getElem_cons_zero, List.getElem_cons_succ, List.setIfInBounds_toArray, List.set_cons_zero, List.set_cons_succ]
    refine wpAnyH_take (i := 13) (v := .pointer (some ⟨g1, 1, none⟩)) rfl (by kernel_rfl) (by kernel_rfl) (by kernel_rfl) (fun _ _ _ h => h) (Or.inl ⟨by rfl, fun w _ => by go_simp⟩) hS ?_
    try simp only [Act.put, List.getElem_toArray, List.getElem_cons_zero, List.getElem_cons_succ, List.setIfInBounds_toArray, List.set_cons_zero, List.set_cons_succ]
    refine wpAnyH_take (i := 14) (v := .string S) rfl (by kernel_rfl) (by kernel_rfl) (by kernel_rfl) (fun _ _ _ h => h) (Or.inl ⟨by rfl, fun w h => by have c := row_at h.1 1 _ rfl; go_simp⟩) hS ?_
    try simp only [Act.put, List.getElem_toArray, List.getElem_cons_zero, List.getElem_cons_succ, List.setIfInBounds_toArray, List.set_cons_zero, List.set_cons_succ]
    refine wpAnyH_take (i := 15) (v := .int .i64 (ix : Int)) rfl (by kernel_rfl) (by kernel_rfl) (by kernel_rfl) (fun _ _ _ h => h) (Or.inl ⟨by rfl, fun w _ => by go_simp⟩) hS ?_
    try simp only [Act.put, List.getElem_toArray, List.getElem_cons_zero, List.getElem_cons_succ, List.setIfInBounds_toArray, List.set_cons_zero, List.set_cons_succ]
    refine wpAnyH_take (i := 16) (v := .int .i64 ((ix : Int) + 1)) rfl (by kernel_rfl) (by kernel_rfl) (by kernel_rfl) (fun _ _ _ h => h) (Or.inl ⟨by rfl, fun w _ => by go_simp⟩) hS ?_
    try simp only [Act.put, List.getElem_toArray, List.getElem_cons_zero, List.getElem_cons_succ, List.setIfInBounds_toArray, List.set_cons_zero, List.set_cons_succ]
    refine wpAnyH_take (i := 17) (v := .string (S.extract (ix + 1) S.size)) rfl (by kernel_rfl) (by kernel_rfl) (by kernel_rfl) (fun _ _ _ h => h) (Or.inl ⟨by rfl, fun w _ => by go_simp; intro h; have := h (by omega); omega⟩) hS ?_
    try simp only [Act.put, List.getElem_toArray, List.getElem_cons_zero, List.getElem_cons_succ, List.setIfInBounds_toArray, List.set_cons_zero, List.set_cons_succ]
    refine wpAnyH_ready (rs := [10]) (by kernel_rfl) (by simp) ?_
    refine AllReadyH.cons rfl (fun K hK => ?_) AllReadyH.nil
    have ngx := hS.2.size
    have ngxs0 := hS.1.lt
    have rx : Row (W0.alloc (.cells #[.int .u8 xr] 5)) W0.heap.size #[.int .u8 xr] 5 := Row.new _ _ _
    go_simp
    refine hK.out _ _ (⟨hS.1.alloc _, hS.2.alloc hS.2.size _⟩) fun hS => ?_
    try simp only [Act.put, List.getElem_toArray, List.getElem_cons_zero, List.getElem_cons_succ, List.setIfInBounds_toArray, List.set_cons_zero, List.set_cons_succ]
    generalize W0.alloc (.cells #[.int .u8 xr] 5) = w1_10 at rx  hS ⊢
    generalize W0.heap.size = gx at rx ngx ngxs0 ⊢
    refine wpAnyH_ready (rs := [11]) (by kernel_rfl) (by simp) ?_
    refine AllReadyH.cons rfl (fun K hK => ?_) AllReadyH.nil
    have cc := str_row (ys := [xr]) rx 1 1 rfl
    go_simp
    refine hK.out _ _ (hS) fun hS => ?_
    try simp only [Act.put, List.getElem_toArray, List.getElem_cons_zero, List.getElem_cons_succ, List.setIfInBounds_toArray, List.set_cons_zero, List.set_cons_succ]
    clear cc
    refine wpAnyH_take (i := 12) (v := .string (S.extract 0 ix ++ strOfNums [xr])) rfl (by kernel_rfl) (by kernel_rfl) (by kernel_rfl) (fun _ _ _ h => h) (Or.inl ⟨by rfl, fun w _ => by go_simp; rw [strOfNums_size, List.length_singleton]; omega⟩) hS ?_
    try simp only [Act.put, List.getElem_toArray, List.getElem_cons_zero, List.getElem_cons_succ, List.setIfInBounds_toArray, List.set_cons_zero, List.set_cons_succ]
    refine wpAnyH_take (i := 18) (v := .string (S.extract 0 ix ++ strOfNums [xr] ++ S.extract (ix + 1) S.size)) rfl (by kernel_rfl) (by kernel_rfl) (by kernel_rfl) (fun _ _ _ h => h) (Or.inl ⟨by rfl, fun w _ => by go_simp; rw [strOfNums_size, List.length_singleton]; omega⟩) hS ?_
    try simp only [Act.put, List.getElem_toArray, List.getElem_cons_zero, List.getElem_cons_succ, List.setIfInBounds_toArray, List.set_cons_zero, List.set_cons_succ]
    refine wpAnyH_take (i := 19) (v := .string (S.extract 0 ix ++ strOfNums [xr] ++ S.extract (ix + 1) S.size)) rfl (by kernel_rfl) (by kernel_rfl) (by kernel_rfl) (fun _ _ _ h => h) (Or.inl ⟨by rfl, fun w _ => by go_simp⟩) hS ?_
    try simp only [Act.put, List.getElem_toArray, List.getElem_cons_zero, List.getElem_cons_succ, List.setIfInBounds_toArray, List.set_cons_zero, List.set_cons_succ]
    refine wpAnyH_done (by kernel_rfl) ?_ _
    have hosz : (S.extract 0 ix ++ strOfNums [xr] ++ S.extract (ix + 1) S.size).size = S.size := by
      rw [ByteArray.size_append, ByteArray.size_append, strOfNums_size, ByteArray.size_extract, ByteArray.size_extract, List.length_singleton]; omega
    generalize S.extract 0 ix ++ strOfNums [xr] ++ S.extract (ix + 1) S.size = oth at hosz ⊢
    have r1 := hS.1
    have B9 := hS.2
    clear hS rx Hx Hy
    obtain ⟨n, hn⟩ : ∃ n : Nat, (n : Int) = 1 + ld := ⟨(1 + ld).toNat, by omega⟩
    have hwl : IntKind.i64.wrap ld = ld := by rw [IntKind.wrap_i64]; omega
    have hwn : IntKind.i64.wrap (1 + ld) = n := by rw [IntKind.wrap_i64, hn]; omega
    have hmk : ∀ w : World, (Instr.makeSlice 72 (.int .i64 n) (.int .i64 n)).run Try.prog w = .ok (.slice (some ⟨w.heap.size, 0, none⟩) n n) (w.alloc (.cells (madeCells #[.int .u8 0] n) 5)) := run_make_row' (P := Try.prog) 72 5 (.int .u8 0) 1 Try.underlying72 info5g rfl .i64 .i64 n (by omega) (by omega)
    have hn2 : 1 ≤ n ∧ n ≤ 256 := by omega
    clear hn
    go_upto_region 9 with fail
    go_cut [7] from 71 to 82 (fun p wx => P9 w2 wx g1 #[.int .u8 ld, .string S, .int .u8 at_, .int .u8 by_, .int .u8 f0, .int .u8 f1, .int .u8 k0, .int .u8 k1] n S oth p)
    case first =>
      refine wp_region_held_drew (S := fun w' => Row w' g1 #[.int .u8 ld, .string S, .int .u8 at_, .int .u8 by_, .int .u8 f0, .int .u8 f1, .int .u8 k0, .int .u8 k1] 71 ∧ Below w2.heap.size w2 w') (by kernel_rfl) ⟨r1, B9.drew⟩ fun hS => ?_
      generalize w1_10.drew = W0 at hS ⊢
      refine wpAnyH_take (i := 0) (v := .pointer (some ⟨g1, 0, none⟩)) rfl (by kernel_rfl) (by kernel_rfl) (by kernel_rfl) (fun _ _ _ h => h) (Or.inl ⟨by rfl, fun w _ => by go_simp⟩) hS ?_
      try simp only [Act.put, List.getElem_toArray, List.getElem_cons_zero, List.getElem_cons_succ, List.setIfInBounds_toArray, List.set_cons_zero, List.set_cons_succ]
      refine wpAnyH_take (i := 1) (v := .int .u8 ld) rfl (by kernel_rfl) (by kernel_rfl) (by kernel_rfl) (fun _ _ _ h => h) (Or.inl ⟨by rfl, fun w h => by have c := row_at h.1 0 _ rfl; go_simp⟩) hS ?_
      try simp only [Act.put, List.getElem_toArray, List.getElem_cons_zero, List.getElem_cons_succ, List.setIfInBounds_toArray, List.set_cons_zero, List.set_cons_succ]
      refine wpAnyH_take (i := 2) (v := .int .i64 ld) rfl (by kernel_rfl) (by kernel_rfl) (by kernel_rfl) (fun _ _ _ h => h) (Or.inl ⟨by rfl, fun w _ => by go_simp⟩) hS ?_
      try simp only [Act.put, List.getElem_toArray, List.getElem_cons_zero, List.getElem_cons_succ, List.setIfInBounds_toArray, List.set_cons_zero, List.set_cons_succ]
      refine wpAnyH_take (i := 3) (v := .int .i64 (n : Int)) rfl (by kernel_rfl) (by kernel_rfl) (by kernel_rfl) (fun _ _ _ h => h) (Or.inl ⟨by rfl, fun w _ => by go_simp⟩) hS ?_
      try simp only [Act.put, List.getElem_toArray, List.getElem_cons_zero, List.getElem_cons_succ, List.setIfInBounds_toArray, List.set_cons_zero, List.set_cons_succ]
      refine wpAnyH_take (i := 6) (v := .pointer (some ⟨g1, 1, none⟩)) rfl (by kernel_rfl) (by kernel_rfl) (by kernel_rfl) (fun _ _ _ h => h) (Or.inl ⟨by rfl, fun w _ => by go_simp⟩) hS ?_
      try simp only [Act.put, List.getElem_toArray, List.getElem_cons_zero, List.getElem_cons_succ, List.setIfInBounds_toArray, List.set_cons_zero, List.set_cons_succ]
      refine wpAnyH_take (i := 7) (v := .string S) rfl (by kernel_rfl) (by kernel_rfl) (by kernel_rfl) (fun _ _ _ h => h) (Or.inl ⟨by rfl, fun w h => by have c := row_at h.1 1 _ rfl; go_simp⟩) hS ?_
      try simp only [Act.put, List.getElem_toArray, List.getElem_cons_zero, List.getElem_cons_succ, List.setIfInBounds_toArray, List.set_cons_zero, List.set_cons_succ]
      refine wpAnyH_take (i := 9) (v := .string oth) rfl (by kernel_rfl) (by kernel_rfl) (by kernel_rfl) (fun _ _ _ h => h) (Or.inl ⟨by rfl, fun w _ => by go_simp⟩) hS ?_
      try simp only [Act.put, List.getElem_toArray, List.getElem_cons_zero, List.getElem_cons_succ, List.setIfInBounds_toArray, List.set_cons_zero, List.set_cons_succ]
      refine wpAnyH_ready (rs := [4, 10, 12]) (by kernel_rfl) (by simp) ?_
      exact (AllReadyH.cons rfl (fun K hK => by
        have nz := hS.2.size
        have nz0 := hS.1.lt
        have rz : Row (W0.alloc (.cells (madeCells #[.int .u8 0] n) 5)) W0.heap.size (bs (zs n)) 5 := by rw [← made_zs]; exact Row.new _ _ _
        have hm9 := hmk W0
        go_simp
        refine hK.out _ _ (⟨hS.1.alloc _, hS.2.alloc hS.2.size _⟩) fun hS => ?_
        try simp only [Act.put, List.getElem_toArray, List.getElem_cons_zero, List.getElem_cons_succ, List.setIfInBounds_toArray, List.set_cons_zero, List.set_cons_succ]
        clear hm9
        generalize W0.alloc (.cells (madeCells #[.int .u8 0] n) 5) = wm at rz  hS ⊢
        generalize W0.heap.size = gz at rz nz  ⊢
        refine wpAnyH_ready (rs := [5, 10, 12]) (by kernel_rfl) (by simp) ?_
        exact (AllReadyH.cons rfl (fun K hK => by
          have cc := str_row rz n n (zs_length n)
          go_simp
          refine hK.out _ _ (hS) fun hS => ?_
          try simp only [Act.put, List.getElem_toArray, List.getElem_cons_zero, List.getElem_cons_succ, List.setIfInBounds_toArray, List.set_cons_zero, List.set_cons_succ]
          clear cc
          refine wpAnyH_ready (rs := [8, 10, 12]) (by kernel_rfl) (by simp) ?_
          exact (AllReadyH.cons rfl (fun K hK => by
            have ngA := hS.2.size
            have ngAs0 := hS.1.lt
            have ngArz := rz.lt
            have rA : Row (wm.alloc (.cells #[.string (strOfNums (zs n)), .string S] 9)) wm.heap.size #[.string (strOfNums (zs n)), .string S] 9 := Row.new _ _ _
            have rz := rz.alloc (.cells #[.string (strOfNums (zs n)), .string S] 9)
            go_simp
            refine hK.out _ _ (⟨hS.1.alloc _, hS.2.alloc hS.2.size _⟩) fun hS => ?_
            try simp only [Act.put, List.getElem_toArray, List.getElem_cons_zero, List.getElem_cons_succ, List.setIfInBounds_toArray, List.set_cons_zero, List.set_cons_succ]
            generalize wm.alloc (.cells #[.string (strOfNums (zs n)), .string S] 9) = w3_8 at rA rz hS ⊢
            generalize wm.heap.size = gA at rA ngA ngAs0 ngArz ⊢
            refine wpAnyH_ready (rs := [10, 12]) (by kernel_rfl) (by simp) ?_
            exact (AllReadyH.cons rfl (fun K hK => by
              have ngB := hS.2.size
              have ngBs0 := hS.1.lt
              have ngBrz := rz.lt
              have ngBrA := rA.lt
              have rB : Row (w3_8.alloc (.cells #[.string oth] 9)) w3_8.heap.size #[.string oth] 9 := Row.new _ _ _
              have rz := rz.alloc (.cells #[.string oth] 9)
              have rA := rA.alloc (.cells #[.string oth] 9)
              go_simp
              refine hK.out _ _ (⟨hS.1.alloc _, hS.2.alloc hS.2.size _⟩) fun hS => ?_
              try simp only [Act.put, List.getElem_toArray, List.getElem_cons_zero, List.getElem_cons_succ, List.setIfInBounds_toArray, List.set_cons_zero, List.set_cons_succ]
              generalize w3_8.alloc (.cells #[.string oth] 9) = w4_10 at rB rz rA hS ⊢
              generalize w3_8.heap.size = gB at rB ngB ngBs0 ngBrz ngBrA ⊢
              refine wpAnyH_take (i := 11) (v := .agg #[.slice (some ⟨gA, 0, none⟩) 2 2, .slice (some ⟨gB, 0, none⟩) 1 1]) rfl (by kernel_rfl) (by kernel_rfl) (by kernel_rfl) (fun _ _ _ h => h) (Or.inl ⟨by rfl, fun w _ => by go_simp⟩) hS ?_
              try simp only [Act.put, List.getElem_toArray, List.getElem_cons_zero, List.getElem_cons_succ, List.setIfInBounds_toArray, List.set_cons_zero, List.set_cons_succ]
              refine wpAnyH_ready (rs := [12]) (by kernel_rfl) (by simp) ?_
              refine AllReadyH.cons rfl (fun K hK => ?_) AllReadyH.nil
              have ngT := hS.2.size
              have ngTs0 := hS.1.lt
              have ngTrz := rz.lt
              have ngTrA := rA.lt
              have ngTrB := rB.lt
              have rT : Row (w4_10.alloc (.cells #[.slice none 0 0, .slice none 0 0] 74)) w4_10.heap.size #[.slice none 0 0, .slice none 0 0] 74 := Row.new _ _ _
              have rz := rz.alloc (.cells #[.slice none 0 0, .slice none 0 0] 74)
              have rA := rA.alloc (.cells #[.slice none 0 0, .slice none 0 0] 74)
              have rB := rB.alloc (.cells #[.slice none 0 0, .slice none 0 0] 74)
              go_simp
              refine hK.out _ _ (⟨hS.1.alloc _, hS.2.alloc hS.2.size _⟩) fun hS => ?_
              try simp only [Act.put, List.getElem_toArray, List.getElem_cons_zero, List.getElem_cons_succ, List.setIfInBounds_toArray, List.set_cons_zero, List.set_cons_succ]
              generalize w4_10.alloc (.cells #[.slice none 0 0, .slice none 0 0] 74) = w5_12 at rT rz rA rB hS ⊢
              generalize w4_10.heap.size = gT at rT ngT ngTs0 ngTrz ngTrA ngTrB ⊢
              refine wpAnyH_ready (rs := [13]) (by kernel_rfl) (by simp) ?_
              refine AllReadyH.cons rfl (fun K hK => ?_) AllReadyH.nil
              refine step_cells rfl 74 (.tmp 7) (.tmp 82) rfl gT #[.slice (some ⟨gA, 0, none⟩) 2 2, .slice (some ⟨gB, 0, none⟩) 1 1] rfl rfl 74 _ rT 2 size74 rfl rfl (by simp [Value.oneCell']) (hK.out _ _ ⟨hS.1.other (by omega) _, below_setRow hS.2 (by omega) _⟩ fun hS => ?_)
              try simp only [Act.put, List.getElem_toArray, List.getElem_cons_zero, List.getElem_cons_succ, List.setIfInBounds_toArray, List.set_cons_zero, List.set_cons_succ]
              have rz := rz.other (g := gT) (by omega) #[.slice (some ⟨gA, 0, none⟩) 2 2, .slice (some ⟨gB, 0, none⟩) 1 1]
              have rA := rA.other (g := gT) (by omega) #[.slice (some ⟨gA, 0, none⟩) 2 2, .slice (some ⟨gB, 0, none⟩) 1 1]
              have rB := rB.other (g := gT) (by omega) #[.slice (some ⟨gA, 0, none⟩) 2 2, .slice (some ⟨gB, 0, none⟩) 1 1]
              have rT := rT.set #[.slice (some ⟨gA, 0, none⟩) 2 2, .slice (some ⟨gB, 0, none⟩) 1 1]
              generalize w5_12.setRow gT #[.slice (some ⟨gA, 0, none⟩) 2 2, .slice (some ⟨gB, 0, none⟩) 1 1] = w6_13 at rz rA rB rT hS ⊢
              refine wpAnyH_done (by kernel_rfl) ?_ _
              go_wp2
              go_meet
              exact ⟨gA, gB, gT, rfl, rA, rB, rT, hS.1, hS.2, by omega, by omega, by omega⟩

            ) (AllReadyH.cons rfl (fun K hK => by
              have ngT := hS.2.size
              have ngTs0 := hS.1.lt
              have ngTrz := rz.lt
              have ngTrA := rA.lt
              have rT : Row (w3_8.alloc (.cells #[.slice none 0 0, .slice none 0 0] 74)) w3_8.heap.size #[.slice none 0 0, .slice none 0 0] 74 := Row.new _ _ _
              have rz := rz.alloc (.cells #[.slice none 0 0, .slice none 0 0] 74)
              have rA := rA.alloc (.cells #[.slice none 0 0, .slice none 0 0] 74)
              go_simp
              refine hK.out _ _ (⟨hS.1.alloc _, hS.2.alloc hS.2.size _⟩) fun hS => ?_
              try simp only [Act.put, List.getElem_toArray, List.getElem_cons_zero, List.getElem_cons_succ, List.setIfInBounds_toArray, List.set_cons_zero, List.set_cons_succ]
              generalize w3_8.alloc (.cells #[.slice none 0 0, .slice none 0 0] 74) = w4_12 at rT rz rA hS ⊢
              generalize w3_8.heap.size = gT at rT ngT ngTs0 ngTrz ngTrA ⊢
              refine wpAnyH_ready (rs := [10]) (by kernel_rfl) (by simp) ?_
              refine AllReadyH.cons rfl (fun K hK => ?_) AllReadyH.nil
              have ngB := hS.2.size
              have ngBs0 := hS.1.lt
              have ngBrz := rz.lt
              have ngBrA := rA.lt
              have ngBrT := rT.lt
              have rB : Row (w4_12.alloc (.cells #[.string oth] 9)) w4_12.heap.size #[.string oth] 9 := Row.new _ _ _
              have rz := rz.alloc (.cells #[.string oth] 9)
              have rA := rA.alloc (.cells #[.string oth] 9)
              have rT := rT.alloc (.cells #[.string oth] 9)
              go_simp
              refine hK.out _ _ (⟨hS.1.alloc _, hS.2.alloc hS.2.size _⟩) fun hS => ?_
              try simp only [Act.put, List.getElem_toArray, List.getElem_cons_zero, List.getElem_cons_succ, List.setIfInBounds_toArray, List.set_cons_zero, List.set_cons_succ]
              generalize w4_12.alloc (.cells #[.string oth] 9) = w5_10 at rB rz rA rT hS ⊢
              generalize w4_12.heap.size = gB at rB ngB ngBs0 ngBrz ngBrA ngBrT ⊢
              refine wpAnyH_take (i := 11) (v := .agg #[.slice (some ⟨gA, 0, none⟩) 2 2, .slice (some ⟨gB, 0, none⟩) 1 1]) rfl (by kernel_rfl) (by kernel_rfl) (by kernel_rfl) (fun _ _ _ h => h) (Or.inl ⟨by rfl, fun w _ => by go_simp⟩) hS ?_
              try simp only [Act.put, List.getElem_toArray, List.getElem_cons_zero, List.getElem_cons_succ, List.setIfInBounds_toArray, List.set_cons_zero, List.set_cons_succ]
              refine wpAnyH_ready (rs := [13]) (by kernel_rfl) (by simp) ?_
              refine AllReadyH.cons rfl (fun K hK => ?_) AllReadyH.nil
              refine step_cells rfl 74 (.tmp 7) (.tmp 82) rfl gT #[.slice (some ⟨gA, 0, none⟩) 2 2, .slice (some ⟨gB, 0, none⟩) 1 1] rfl rfl 74 _ rT 2 size74 rfl rfl (by simp [Value.oneCell']) (hK.out _ _ ⟨hS.1.other (by omega) _, below_setRow hS.2 (by omega) _⟩ fun hS => ?_)
              try simp only [Act.put, List.getElem_toArray, List.getElem_cons_zero, List.getElem_cons_succ, List.setIfInBounds_toArray, List.set_cons_zero, List.set_cons_succ]
              have rz := rz.other (g := gT) (by omega) #[.slice (some ⟨gA, 0, none⟩) 2 2, .slice (some ⟨gB, 0, none⟩) 1 1]
              have rA := rA.other (g := gT) (by omega) #[.slice (some ⟨gA, 0, none⟩) 2 2, .slice (some ⟨gB, 0, none⟩) 1 1]
              have rB := rB.other (g := gT) (by omega) #[.slice (some ⟨gA, 0, none⟩) 2 2, .slice (some ⟨gB, 0, none⟩) 1 1]
              have rT := rT.set #[.slice (some ⟨gA, 0, none⟩) 2 2, .slice (some ⟨gB, 0, none⟩) 1 1]
              generalize w5_10.setRow gT #[.slice (some ⟨gA, 0, none⟩) 2 2, .slice (some ⟨gB, 0, none⟩) 1 1] = w6_13 at rz rA rT rB hS ⊢
              refine wpAnyH_done (by kernel_rfl) ?_ _
              go_wp2
              go_meet
              exact ⟨gA, gB, gT, rfl, rA, rB, rT, hS.1, hS.2, by omega, by omega, by omega⟩

            ) AllReadyH.nil))
          ) (AllReadyH.cons rfl (fun K hK => by
            have ngB := hS.2.size
            have ngBs0 := hS.1.lt
            have ngBrz := rz.lt
            have rB : Row (wm.alloc (.cells #[.string oth] 9)) wm.heap.size #[.string oth] 9 := Row.new _ _ _
            have rz := rz.alloc (.cells #[.string oth] 9)
            go_simp
            refine hK.out _ _ (⟨hS.1.alloc _, hS.2.alloc hS.2.size _⟩) fun hS => ?_
            try simp only [Act.put, List.getElem_toArray, List.getElem_cons_zero, List.getElem_cons_succ, List.setIfInBounds_toArray, List.set_cons_zero, List.set_cons_succ]
            generalize wm.alloc (.cells #[.string oth] 9) = w3_10 at rB rz hS ⊢
            generalize wm.heap.size = gB at rB ngB ngBs0 ngBrz ⊢
            refine wpAnyH_ready (rs := [8, 12]) (by kernel_rfl) (by simp) ?_
            exact (AllReadyH.cons rfl (fun K hK => by
              have ngA := hS.2.size
              have ngAs0 := hS.1.lt
              have ngArz := rz.lt
              have ngArB := rB.lt
              have rA : Row (w3_10.alloc (.cells #[.string (strOfNums (zs n)), .string S] 9)) w3_10.heap.size #[.string (strOfNums (zs n)), .string S] 9 := Row.new _ _ _
              have rz := rz.alloc (.cells #[.string (strOfNums (zs n)), .string S] 9)
              have rB := rB.alloc (.cells #[.string (strOfNums (zs n)), .string S] 9)
              go_simp
              refine hK.out _ _ (⟨hS.1.alloc _, hS.2.alloc hS.2.size _⟩) fun hS => ?_
              try simp only [Act.put, List.getElem_toArray, List.getElem_cons_zero, List.getElem_cons_succ, List.setIfInBounds_toArray, List.set_cons_zero, List.set_cons_succ]
              generalize w3_10.alloc (.cells #[.string (strOfNums (zs n)), .string S] 9) = w4_8 at rA rz rB hS ⊢
              generalize w3_10.heap.size = gA at rA ngA ngAs0 ngArz ngArB ⊢
              refine wpAnyH_take (i := 11) (v := .agg #[.slice (some ⟨gA, 0, none⟩) 2 2, .slice (some ⟨gB, 0, none⟩) 1 1]) rfl (by kernel_rfl) (by kernel_rfl) (by kernel_rfl) (fun _ _ _ h => h) (Or.inl ⟨by rfl, fun w _ => by go_simp⟩) hS ?_
              try simp only [Act.put, List.getElem_toArray, List.getElem_cons_zero, List.getElem_cons_succ, List.setIfInBounds_toArray, List.set_cons_zero, List.set_cons_succ]
              refine wpAnyH_ready (rs := [12]) (by kernel_rfl) (by simp) ?_
              refine AllReadyH.cons rfl (fun K hK => ?_) AllReadyH.nil
              have ngT := hS.2.size
              have ngTs0 := hS.1.lt
              have ngTrz := rz.lt
              have ngTrB := rB.lt
              have ngTrA := rA.lt
              have rT : Row (w4_8.alloc (.cells #[.slice none 0 0, .slice none 0 0] 74)) w4_8.heap.size #[.slice none 0 0, .slice none 0 0] 74 := Row.new _ _ _
              have rz := rz.alloc (.cells #[.slice none 0 0, .slice none 0 0] 74)
              have rB := rB.alloc (.cells #[.slice none 0 0, .slice none 0 0] 74)
              have rA := rA.alloc (.cells #[.slice none 0 0, .slice none 0 0] 74)
              go_simp
              refine hK.out _ _ (⟨hS.1.alloc _, hS.2.alloc hS.2.size _⟩) fun hS => ?_
              try simp only [Act.put, List.getElem_toArray, List.getElem_cons_zero, List.getElem_cons_succ, List.setIfInBounds_toArray, List.set_cons_zero, List.set_cons_succ]
              generalize w4_8.alloc (.cells #[.slice none 0 0, .slice none 0 0] 74) = w5_12 at rT rz rB rA hS ⊢
              generalize w4_8.heap.size = gT at rT ngT ngTs0 ngTrz ngTrB ngTrA ⊢
              refine wpAnyH_ready (rs := [13]) (by kernel_rfl) (by simp) ?_
              refine AllReadyH.cons rfl (fun K hK => ?_) AllReadyH.nil
              refine step_cells rfl 74 (.tmp 7) (.tmp 82) rfl gT #[.slice (some ⟨gA, 0, none⟩) 2 2, .slice (some ⟨gB, 0, none⟩) 1 1] rfl rfl 74 _ rT 2 size74 rfl rfl (by simp [Value.oneCell']) (hK.out _ _ ⟨hS.1.other (by omega) _, below_setRow hS.2 (by omega) _⟩ fun hS => ?_)
              try simp only [Act.put, List.getElem_toArray, List.getElem_cons_zero, List.getElem_cons_succ, List.setIfInBounds_toArray, List.set_cons_zero, List.set_cons_succ]
              have rz := rz.other (g := gT) (by omega) #[.slice (some ⟨gA, 0, none⟩) 2 2, .slice (some ⟨gB, 0, none⟩) 1 1]
              have rB := rB.other (g := gT) (by omega) #[.slice (some ⟨gA, 0, none⟩) 2 2, .slice (some ⟨gB, 0, none⟩) 1 1]
              have rA := rA.other (g := gT) (by omega) #[.slice (some ⟨gA, 0, none⟩) 2 2, .slice (some ⟨gB, 0, none⟩) 1 1]
              have rT := rT.set #[.slice (some ⟨gA, 0, none⟩) 2 2, .slice (some ⟨gB, 0, none⟩) 1 1]
              generalize w5_12.setRow gT #[.slice (some ⟨gA, 0, none⟩) 2 2, .slice (some ⟨gB, 0, none⟩) 1 1] = w6_13 at rz rB rA rT hS ⊢
              refine wpAnyH_done (by kernel_rfl) ?_ _
              go_wp2
              go_meet
              exact ⟨gA, gB, gT, rfl, rA, rB, rT, hS.1, hS.2, by omega, by omega, by omega⟩

            ) (AllReadyH.cons rfl (fun K hK => by
              have ngT := hS.2.size
              have ngTs0 := hS.1.lt
              have ngTrz := rz.lt
              have ngTrB := rB.lt
              have rT : Row (w3_10.alloc (.cells #[.slice none 0 0, .slice none 0 0] 74)) w3_10.heap.size #[.slice none 0 0, .slice none 0 0] 74 := Row.new _ _ _
              have rz := rz.alloc (.cells #[.slice none 0 0, .slice none 0 0] 74)
              have rB := rB.alloc (.cells #[.slice none 0 0, .slice none 0 0] 74)
              go_simp
              refine hK.out _ _ (⟨hS.1.alloc _, hS.2.alloc hS.2.size _⟩) fun hS => ?_
              try simp only [Act.put, List.getElem_toArray, List.getElem_cons_zero, List.getElem_cons_succ, List.setIfInBounds_toArray, List.set_cons_zero, List.set_cons_succ]
              generalize w3_10.alloc (.cells #[.slice none 0 0, .slice none 0 0] 74) = w4_12 at rT rz rB hS ⊢
              generalize w3_10.heap.size = gT at rT ngT ngTs0 ngTrz ngTrB ⊢
              refine wpAnyH_ready (rs := [8]) (by kernel_rfl) (by simp) ?_
              refine AllReadyH.cons rfl (fun K hK => ?_) AllReadyH.nil
              have ngA := hS.2.size
              have ngAs0 := hS.1.lt
              have ngArz := rz.lt
              have ngArB := rB.lt
              have ngArT := rT.lt
              have rA : Row (w4_12.alloc (.cells #[.string (strOfNums (zs n)), .string S] 9)) w4_12.heap.size #[.string (strOfNums (zs n)), .string S] 9 := Row.new _ _ _
              have rz := rz.alloc (.cells #[.string (strOfNums (zs n)), .string S] 9)
              have rB := rB.alloc (.cells #[.string (strOfNums (zs n)), .string S] 9)
              have rT := rT.alloc (.cells #[.string (strOfNums (zs n)), .string S] 9)
              go_simp
              refine hK.out _ _ (⟨hS.1.alloc _, hS.2.alloc hS.2.size _⟩) fun hS => ?_
              try simp only [Act.put, List.getElem_toArray, List.getElem_cons_zero, List.getElem_cons_succ, List.setIfInBounds_toArray, List.set_cons_zero, List.set_cons_succ]
              generalize w4_12.alloc (.cells #[.string (strOfNums (zs n)), .string S] 9) = w5_8 at rA rz rB rT hS ⊢
              generalize w4_12.heap.size = gA at rA ngA ngAs0 ngArz ngArB ngArT ⊢
              refine wpAnyH_take (i := 11) (v := .agg #[.slice (some ⟨gA, 0, none⟩) 2 2, .slice (some ⟨gB, 0, none⟩) 1 1]) rfl (by kernel_rfl) (by kernel_rfl) (by kernel_rfl) (fun _ _ _ h => h) (Or.inl ⟨by rfl, fun w _ => by go_simp⟩) hS ?_
              try simp only [Act.put, List.getElem_toArray, List.getElem_cons_zero, List.getElem_cons_succ, List.setIfInBounds_toArray, List.set_cons_zero, List.set_cons_succ]
              refine wpAnyH_ready (rs := [13]) (by kernel_rfl) (by simp) ?_
              refine AllReadyH.cons rfl (fun K hK => ?_) AllReadyH.nil
              refine step_cells rfl 74 (.tmp 7) (.tmp 82) rfl gT #[.slice (some ⟨gA, 0, none⟩) 2 2, .slice (some ⟨gB, 0, none⟩) 1 1] rfl rfl 74 _ rT 2 size74 rfl rfl (by simp [Value.oneCell']) (hK.out _ _ ⟨hS.1.other (by omega) _, below_setRow hS.2 (by omega) _⟩ fun hS => ?_)
              try simp only [Act.put, List.getElem_toArray, List.getElem_cons_zero, List.getElem_cons_succ, List.setIfInBounds_toArray, List.set_cons_zero, List.set_cons_succ]
              have rz := rz.other (g := gT) (by omega) #[.slice (some ⟨gA, 0, none⟩) 2 2, .slice (some ⟨gB, 0, none⟩) 1 1]
              have rB := rB.other (g := gT) (by omega) #[.slice (some ⟨gA, 0, none⟩) 2 2, .slice (some ⟨gB, 0, none⟩) 1 1]
              have rA := rA.other (g := gT) (by omega) #[.slice (some ⟨gA, 0, none⟩) 2 2, .slice (some ⟨gB, 0, none⟩) 1 1]
              have rT := rT.set #[.slice (some ⟨gA, 0, none⟩) 2 2, .slice (some ⟨gB, 0, none⟩) 1 1]
              generalize w5_8.setRow gT #[.slice (some ⟨gA, 0, none⟩) 2 2, .slice (some ⟨gB, 0, none⟩) 1 1] = w6_13 at rz rB rT rA hS ⊢
              refine wpAnyH_done (by kernel_rfl) ?_ _
              go_wp2
              go_meet
              exact ⟨gA, gB, gT, rfl, rA, rB, rT, hS.1, hS.2, by omega, by omega, by omega⟩

            ) AllReadyH.nil))
          ) (AllReadyH.cons rfl (fun K hK => by
            have ngT := hS.2.size
            have ngTs0 := hS.1.lt
            have ngTrz := rz.lt
            have rT : Row (wm.alloc (.cells #[.slice none 0 0, .slice none 0 0] 74)) wm.heap.size #[.slice none 0 0, .slice none 0 0] 74 := Row.new _ _ _
            have rz := rz.alloc (.cells #[.slice none 0 0, .slice none 0 0] 74)
            go_simp
            refine hK.out _ _ (⟨hS.1.alloc _, hS.2.alloc hS.2.size _⟩) fun hS => ?_
            try simp only [Act.put, List.getElem_toArray, List.getElem_cons_zero, List.getElem_cons_succ, List.setIfInBounds_toArray, List.set_cons_zero, List.set_cons_succ]
            generalize wm.alloc (.cells #[.slice none 0 0, .slice none 0 0] 74) = w3_12 at rT rz hS ⊢
            generalize wm.heap.size = gT at rT ngT ngTs0 ngTrz ⊢
            refine wpAnyH_ready (rs := [8, 10]) (by kernel_rfl) (by simp) ?_
            exact (AllReadyH.cons rfl (fun K hK => by
              have ngA := hS.2.size
              have ngAs0 := hS.1.lt
              have ngArz := rz.lt
              have ngArT := rT.lt
              have rA : Row (w3_12.alloc (.cells #[.string (strOfNums (zs n)), .string S] 9)) w3_12.heap.size #[.string (strOfNums (zs n)), .string S] 9 := Row.new _ _ _
              have rz := rz.alloc (.cells #[.string (strOfNums (zs n)), .string S] 9)
              have rT := rT.alloc (.cells #[.string (strOfNums (zs n)), .string S] 9)
              go_simp
              refine hK.out _ _ (⟨hS.1.alloc _, hS.2.alloc hS.2.size _⟩) fun hS => ?_
              try simp only [Act.put, List.getElem_toArray, List.getElem_cons_zero, List.getElem_cons_succ, List.setIfInBounds_toArray, List.set_cons_zero, List.set_cons_succ]
              generalize w3_12.alloc (.cells #[.string (strOfNums (zs n)), .string S] 9) = w4_8 at rA rz rT hS ⊢
              generalize w3_12.heap.size = gA at rA ngA ngAs0 ngArz ngArT ⊢
              refine wpAnyH_ready (rs := [10]) (by kernel_rfl) (by simp) ?_
              refine AllReadyH.cons rfl (fun K hK => ?_) AllReadyH.nil
              have ngB := hS.2.size
              have ngBs0 := hS.1.lt
              have ngBrz := rz.lt
              have ngBrT := rT.lt
              have ngBrA := rA.lt
              have rB : Row (w4_8.alloc (.cells #[.string oth] 9)) w4_8.heap.size #[.string oth] 9 := Row.new _ _ _
              have rz := rz.alloc (.cells #[.string oth] 9)
              have rT := rT.alloc (.cells #[.string oth] 9)
              have rA := rA.alloc (.cells #[.string oth] 9)
              go_simp
              refine hK.out _ _ (⟨hS.1.alloc _, hS.2.alloc hS.2.size _⟩) fun hS => ?_
              try simp only [Act.put, List.getElem_toArray, List.getElem_cons_zero, List.getElem_cons_succ, List.setIfInBounds_toArray, List.set_cons_zero, List.set_cons_succ]
              generalize w4_8.alloc (.cells #[.string oth] 9) = w5_10 at rB rz rT rA hS ⊢
              generalize w4_8.heap.size = gB at rB ngB ngBs0 ngBrz ngBrT ngBrA ⊢
              refine wpAnyH_take (i := 11) (v := .agg #[.slice (some ⟨gA, 0, none⟩) 2 2, .slice (some ⟨gB, 0, none⟩) 1 1]) rfl (by kernel_rfl) (by kernel_rfl) (by kernel_rfl) (fun _ _ _ h => h) (Or.inl ⟨by rfl, fun w _ => by go_simp⟩) hS ?_
              try simp only [Act.put, List.getElem_toArray, List.getElem_cons_zero, List.getElem_cons_succ, List.setIfInBounds_toArray, List.set_cons_zero, List.set_cons_succ]
              refine wpAnyH_ready (rs := [13]) (by kernel_rfl) (by simp) ?_
              refine AllReadyH.cons rfl (fun K hK => ?_) AllReadyH.nil
              refine step_cells rfl 74 (.tmp 7) (.tmp 82) rfl gT #[.slice (some ⟨gA, 0, none⟩) 2 2, .slice (some ⟨gB, 0, none⟩) 1 1] rfl rfl 74 _ rT 2 size74 rfl rfl (by simp [Value.oneCell']) (hK.out _ _ ⟨hS.1.other (by omega) _, below_setRow hS.2 (by omega) _⟩ fun hS => ?_)
              try simp only [Act.put, List.getElem_toArray, List.getElem_cons_zero, List.getElem_cons_succ, List.setIfInBounds_toArray, List.set_cons_zero, List.set_cons_succ]
              have rz := rz.other (g := gT) (by omega) #[.slice (some ⟨gA, 0, none⟩) 2 2, .slice (some ⟨gB, 0, none⟩) 1 1]
              have rA := rA.other (g := gT) (by omega) #[.slice (some ⟨gA, 0, none⟩) 2 2, .slice (some ⟨gB, 0, none⟩) 1 1]
              have rB := rB.other (g := gT) (by omega) #[.slice (some ⟨gA, 0, none⟩) 2 2, .slice (some ⟨gB, 0, none⟩) 1 1]
              have rT := rT.set #[.slice (some ⟨gA, 0, none⟩) 2 2, .slice (some ⟨gB, 0, none⟩) 1 1]
              generalize w5_10.setRow gT #[.slice (some ⟨gA, 0, none⟩) 2 2, .slice (some ⟨gB, 0, none⟩) 1 1] = w6_13 at rz rT rA rB hS ⊢
              refine wpAnyH_done (by kernel_rfl) ?_ _
              go_wp2
              go_meet
              exact ⟨gA, gB, gT, rfl, rA, rB, rT, hS.1, hS.2, by omega, by omega, by omega⟩

            ) (AllReadyH.cons rfl (fun K hK => by
              have ngB := hS.2.size
              have ngBs0 := hS.1.lt
              have ngBrz := rz.lt
              have ngBrT := rT.lt
              have rB : Row (w3_12.alloc (.cells #[.string oth] 9)) w3_12.heap.size #[.string oth] 9 := Row.new _ _ _
              have rz := rz.alloc (.cells #[.string oth] 9)
              have rT := rT.alloc (.cells #[.string oth] 9)
              go_simp
              refine hK.out _ _ (⟨hS.1.alloc _, hS.2.alloc hS.2.size _⟩) fun hS => ?_
              try simp only [Act.put, List.getElem_toArray, List.getElem_cons_zero, List.getElem_cons_succ, List.setIfInBounds_toArray, List.set_cons_zero, List.set_cons_succ]
              generalize w3_12.alloc (.cells #[.string oth] 9) = w4_10 at rB rz rT hS ⊢
              generalize w3_12.heap.size = gB at rB ngB ngBs0 ngBrz ngBrT ⊢
              refine wpAnyH_ready (rs := [8]) (by kernel_rfl) (by simp) ?_
              refine AllReadyH.cons rfl (fun K hK => ?_) AllReadyH.nil
              have ngA := hS.2.size
              have ngAs0 := hS.1.lt
              have ngArz := rz.lt
              have ngArT := rT.lt
              have ngArB := rB.lt
              have rA : Row (w4_10.alloc (.cells #[.string (strOfNums (zs n)), .string S] 9)) w4_10.heap.size #[.string (strOfNums (zs n)), .string S] 9 := Row.new _ _ _
              have rz := rz.alloc (.cells #[.string (strOfNums (zs n)), .string S] 9)
              have rT := rT.alloc (.cells #[.string (strOfNums (zs n)), .string S] 9)
              have rB := rB.alloc (.cells #[.string (strOfNums (zs n)), .string S] 9)
              go_simp
              refine hK.out _ _ (⟨hS.1.alloc _, hS.2.alloc hS.2.size _⟩) fun hS => ?_
              try simp only [Act.put, List.getElem_toArray, List.getElem_cons_zero, List.getElem_cons_succ, List.setIfInBounds_toArray, List.set_cons_zero, List.set_cons_succ]
              generalize w4_10.alloc (.cells #[.string (strOfNums (zs n)), .string S] 9) = w5_8 at rA rz rT rB hS ⊢
              generalize w4_10.heap.size = gA at rA ngA ngAs0 ngArz ngArT ngArB ⊢
              refine wpAnyH_take (i := 11) (v := .agg #[.slice (some ⟨gA, 0, none⟩) 2 2, .slice (some ⟨gB, 0, none⟩) 1 1]) rfl (by kernel_rfl) (by kernel_rfl) (by kernel_rfl) (fun _ _ _ h => h) (Or.inl ⟨by rfl, fun w _ => by go_simp⟩) hS ?_
              try simp only [Act.put, List.getElem_toArray, List.getElem_cons_zero, List.getElem_cons_succ, List.setIfInBounds_toArray, List.set_cons_zero, List.set_cons_succ]
              refine wpAnyH_ready (rs := [13]) (by kernel_rfl) (by simp) ?_
              refine AllReadyH.cons rfl (fun K hK => ?_) AllReadyH.nil
              refine step_cells rfl 74 (.tmp 7) (.tmp 82) rfl gT #[.slice (some ⟨gA, 0, none⟩) 2 2, .slice (some ⟨gB, 0, none⟩) 1 1] rfl rfl 74 _ rT 2 size74 rfl rfl (by simp [Value.oneCell']) (hK.out _ _ ⟨hS.1.other (by omega) _, below_setRow hS.2 (by omega) _⟩ fun hS => ?_)
              try simp only [Act.put, List.getElem_toArray, List.getElem_cons_zero, List.getElem_cons_succ, List.setIfInBounds_toArray, List.set_cons_zero, List.set_cons_succ]
              have rz := rz.other (g := gT) (by omega) #[.slice (some ⟨gA, 0, none⟩) 2 2, .slice (some ⟨gB, 0, none⟩) 1 1]
              have rB := rB.other (g := gT) (by omega) #[.slice (some ⟨gA, 0, none⟩) 2 2, .slice (some ⟨gB, 0, none⟩) 1 1]
              have rA := rA.other (g := gT) (by omega) #[.slice (some ⟨gA, 0, none⟩) 2 2, .slice (some ⟨gB, 0, none⟩) 1 1]
              have rT := rT.set #[.slice (some ⟨gA, 0, none⟩) 2 2, .slice (some ⟨gB, 0, none⟩) 1 1]
              generalize w5_8.setRow gT #[.slice (some ⟨gA, 0, none⟩) 2 2, .slice (some ⟨gB, 0, none⟩) 1 1] = w6_13 at rz rT rB rA hS ⊢
              refine wpAnyH_done (by kernel_rfl) ?_ _
              go_wp2
              go_meet
              exact ⟨gA, gB, gT, rfl, rA, rB, rT, hS.1, hS.2, by omega, by omega, by omega⟩

            ) AllReadyH.nil))
          ) AllReadyH.nil)))
        ) (AllReadyH.cons rfl (fun K hK => by
          have ngB := hS.2.size
          have ngBs0 := hS.1.lt
          have ngBrz := rz.lt
          have rB : Row (wm.alloc (.cells #[.string oth] 9)) wm.heap.size #[.string oth] 9 := Row.new _ _ _
          have rz := rz.alloc (.cells #[.string oth] 9)
          go_simp
          refine hK.out _ _ (⟨hS.1.alloc _, hS.2.alloc hS.2.size _⟩) fun hS => ?_
          try simp only [Act.put, List.getElem_toArray, List.getElem_cons_zero, List.getElem_cons_succ, List.setIfInBounds_toArray, List.set_cons_zero, List.set_cons_succ]
          generalize wm.alloc (.cells #[.string oth] 9) = w2_10 at rB rz hS ⊢
          generalize wm.heap.size = gB at rB ngB ngBs0 ngBrz ⊢
          refine wpAnyH_ready (rs := [5, 12]) (by kernel_rfl) (by simp) ?_
          exact (AllReadyH.cons rfl (fun K hK => by
            have cc := str_row rz n n (zs_length n)
            go_simp
            refine hK.out _ _ (hS) fun hS => ?_
            try simp only [Act.put, List.getElem_toArray, List.getElem_cons_zero, List.getElem_cons_succ, List.setIfInBounds_toArray, List.set_cons_zero, List.set_cons_succ]
            clear cc
            refine wpAnyH_ready (rs := [8, 12]) (by kernel_rfl) (by simp) ?_
            exact (AllReadyH.cons rfl (fun K hK => by
              have ngA := hS.2.size
              have ngAs0 := hS.1.lt
              have ngArz := rz.lt
              have ngArB := rB.lt
              have rA : Row (w2_10.alloc (.cells #[.string (strOfNums (zs n)), .string S] 9)) w2_10.heap.size #[.string (strOfNums (zs n)), .string S] 9 := Row.new _ _ _
              have rz := rz.alloc (.cells #[.string (strOfNums (zs n)), .string S] 9)
              have rB := rB.alloc (.cells #[.string (strOfNums (zs n)), .string S] 9)
              go_simp
              refine hK.out _ _ (⟨hS.1.alloc _, hS.2.alloc hS.2.size _⟩) fun hS => ?_
              try simp only [Act.put, List.getElem_toArray, List.getElem_cons_zero, List.getElem_cons_succ, List.setIfInBounds_toArray, List.set_cons_zero, List.set_cons_succ]
              generalize w2_10.alloc (.cells #[.string (strOfNums (zs n)), .string S] 9) = w4_8 at rA rz rB hS ⊢
              generalize w2_10.heap.size = gA at rA ngA ngAs0 ngArz ngArB ⊢
              refine wpAnyH_take (i := 11) (v := .agg #[.slice (some ⟨gA, 0, none⟩) 2 2, .slice (some ⟨gB, 0, none⟩) 1 1]) rfl (by kernel_rfl) (by kernel_rfl) (by kernel_rfl) (fun _ _ _ h => h) (Or.inl ⟨by rfl, fun w _ => by go_simp⟩) hS ?_
              try simp only [Act.put, List.getElem_toArray, List.getElem_cons_zero, List.getElem_cons_succ, List.setIfInBounds_toArray, List.set_cons_zero, List.set_cons_succ]
              refine wpAnyH_ready (rs := [12]) (by kernel_rfl) (by simp) ?_
              refine AllReadyH.cons rfl (fun K hK => ?_) AllReadyH.nil
              have ngT := hS.2.size
              have ngTs0 := hS.1.lt
              have ngTrz := rz.lt
              have ngTrB := rB.lt
              have ngTrA := rA.lt
              have rT : Row (w4_8.alloc (.cells #[.slice none 0 0, .slice none 0 0] 74)) w4_8.heap.size #[.slice none 0 0, .slice none 0 0] 74 := Row.new _ _ _
              have rz := rz.alloc (.cells #[.slice none 0 0, .slice none 0 0] 74)
              have rB := rB.alloc (.cells #[.slice none 0 0, .slice none 0 0] 74)
              have rA := rA.alloc (.cells #[.slice none 0 0, .slice none 0 0] 74)
              go_simp
              refine hK.out _ _ (⟨hS.1.alloc _, hS.2.alloc hS.2.size _⟩) fun hS => ?_
              try simp only [Act.put, List.getElem_toArray, List.getElem_cons_zero, List.getElem_cons_succ, List.setIfInBounds_toArray, List.set_cons_zero, List.set_cons_succ]
              generalize w4_8.alloc (.cells #[.slice none 0 0, .slice none 0 0] 74) = w5_12 at rT rz rB rA hS ⊢
              generalize w4_8.heap.size = gT at rT ngT ngTs0 ngTrz ngTrB ngTrA ⊢
              refine wpAnyH_ready (rs := [13]) (by kernel_rfl) (by simp) ?_
              refine AllReadyH.cons rfl (fun K hK => ?_) AllReadyH.nil
              refine step_cells rfl 74 (.tmp 7) (.tmp 82) rfl gT #[.slice (some ⟨gA, 0, none⟩) 2 2, .slice (some ⟨gB, 0, none⟩) 1 1] rfl rfl 74 _ rT 2 size74 rfl rfl (by simp [Value.oneCell']) (hK.out _ _ ⟨hS.1.other (by omega) _, below_setRow hS.2 (by omega) _⟩ fun hS => ?_)
              try simp only [Act.put, List.getElem_toArray, List.getElem_cons_zero, List.getElem_cons_succ, List.setIfInBounds_toArray, List.set_cons_zero, List.set_cons_succ]
              have rz := rz.other (g := gT) (by omega) #[.slice (some ⟨gA, 0, none⟩) 2 2, .slice (some ⟨gB, 0, none⟩) 1 1]
              have rB := rB.other (g := gT) (by omega) #[.slice (some ⟨gA, 0, none⟩) 2 2, .slice (some ⟨gB, 0, none⟩) 1 1]
              have rA := rA.other (g := gT) (by omega) #[.slice (some ⟨gA, 0, none⟩) 2 2, .slice (some ⟨gB, 0, none⟩) 1 1]
              have rT := rT.set #[.slice (some ⟨gA, 0, none⟩) 2 2, .slice (some ⟨gB, 0, none⟩) 1 1]
              generalize w5_12.setRow gT #[.slice (some ⟨gA, 0, none⟩) 2 2, .slice (some ⟨gB, 0, none⟩) 1 1] = w6_13 at rz rB rA rT hS ⊢
              refine wpAnyH_done (by kernel_rfl) ?_ _
              go_wp2
              go_meet
              exact ⟨gA, gB, gT, rfl, rA, rB, rT, hS.1, hS.2, by omega, by omega, by omega⟩

            ) (AllReadyH.cons rfl (fun K hK => by
              have ngT := hS.2.size
              have ngTs0 := hS.1.lt
              have ngTrz := rz.lt
              have ngTrB := rB.lt
              have rT : Row (w2_10.alloc (.cells #[.slice none 0 0, .slice none 0 0] 74)) w2_10.heap.size #[.slice none 0 0, .slice none 0 0] 74 := Row.new _ _ _
              have rz := rz.alloc (.cells #[.slice none 0 0, .slice none 0 0] 74)
              have rB := rB.alloc (.cells #[.slice none 0 0, .slice none 0 0] 74)
              go_simp
              refine hK.out _ _ (⟨hS.1.alloc _, hS.2.alloc hS.2.size _⟩) fun hS => ?_
              try simp only [Act.put, List.getElem_toArray, List.getElem_cons_zero, List.getElem_cons_succ, List.setIfInBounds_toArray, List.set_cons_zero, List.set_cons_succ]
              generalize w2_10.alloc (.cells #[.slice none 0 0, .slice none 0 0] 74) = w4_12 at rT rz rB hS ⊢
              generalize w2_10.heap.size = gT at rT ngT ngTs0 ngTrz ngTrB ⊢
              refine wpAnyH_ready (rs := [8]) (by kernel_rfl) (by simp) ?_
              refine AllReadyH.cons rfl (fun K hK => ?_) AllReadyH.nil
              have ngA := hS.2.size
              have ngAs0 := hS.1.lt
              have ngArz := rz.lt
              have ngArB := rB.lt
              have ngArT := rT.lt
              have rA : Row (w4_12.alloc (.cells #[.string (strOfNums (zs n)), .string S] 9)) w4_12.heap.size #[.string (strOfNums (zs n)), .string S] 9 := Row.new _ _ _
              have rz := rz.alloc (.cells #[.string (strOfNums (zs n)), .string S] 9)
              have rB := rB.alloc (.cells #[.string (strOfNums (zs n)), .string S] 9)
              have rT := rT.alloc (.cells #[.string (strOfNums (zs n)), .string S] 9)
              go_simp
              refine hK.out _ _ (⟨hS.1.alloc _, hS.2.alloc hS.2.size _⟩) fun hS => ?_
              try simp only [Act.put, List.getElem_toArray, List.getElem_cons_zero, List.getElem_cons_succ, List.setIfInBounds_toArray, List.set_cons_zero, List.set_cons_succ]
              generalize w4_12.alloc (.cells #[.string (strOfNums (zs n)), .string S] 9) = w5_8 at rA rz rB rT hS ⊢
              generalize w4_12.heap.size = gA at rA ngA ngAs0 ngArz ngArB ngArT ⊢
              refine wpAnyH_take (i := 11) (v := .agg #[.slice (some ⟨gA, 0, none⟩) 2 2, .slice (some ⟨gB, 0, none⟩) 1 1]) rfl (by kernel_rfl) (by kernel_rfl) (by kernel_rfl) (fun _ _ _ h => h) (Or.inl ⟨by rfl, fun w _ => by go_simp⟩) hS ?_
              try simp only [Act.put, List.getElem_toArray, List.getElem_cons_zero, List.getElem_cons_succ, List.setIfInBounds_toArray, List.set_cons_zero, List.set_cons_succ]
              refine wpAnyH_ready (rs := [13]) (by kernel_rfl) (by simp) ?_
              refine AllReadyH.cons rfl (fun K hK => ?_) AllReadyH.nil
              refine step_cells rfl 74 (.tmp 7) (.tmp 82) rfl gT #[.slice (some ⟨gA, 0, none⟩) 2 2, .slice (some ⟨gB, 0, none⟩) 1 1] rfl rfl 74 _ rT 2 size74 rfl rfl (by simp [Value.oneCell']) (hK.out _ _ ⟨hS.1.other (by omega) _, below_setRow hS.2 (by omega) _⟩ fun hS => ?_)
              try simp only [Act.put, List.getElem_toArray, List.getElem_cons_zero, List.getElem_cons_succ, List.setIfInBounds_toArray, List.set_cons_zero, List.set_cons_succ]
              have rz := rz.other (g := gT) (by omega) #[.slice (some ⟨gA, 0, none⟩) 2 2, .slice (some ⟨gB, 0, none⟩) 1 1]
              have rB := rB.other (g := gT) (by omega) #[.slice (some ⟨gA, 0, none⟩) 2 2, .slice (some ⟨gB, 0, none⟩) 1 1]
              have rA := rA.other (g := gT) (by omega) #[.slice (some ⟨gA, 0, none⟩) 2 2, .slice (some ⟨gB, 0, none⟩) 1 1]
              have rT := rT.set #[.slice (some ⟨gA, 0, none⟩) 2 2, .slice (some ⟨gB, 0, none⟩) 1 1]
              generalize w5_8.setRow gT #[.slice (some ⟨gA, 0, none⟩) 2 2, .slice (some ⟨gB, 0, none⟩) 1 1] = w6_13 at rz rB rT rA hS ⊢
              refine wpAnyH_done (by kernel_rfl) ?_ _
              go_wp2
              go_meet
              exact ⟨gA, gB, gT, rfl, rA, rB, rT, hS.1, hS.2, by omega, by omega, by omega⟩

            ) AllReadyH.nil))
          ) (AllReadyH.cons rfl (fun K hK => by
            have ngT := hS.2.size
            have ngTs0 := hS.1.lt
            have ngTrz := rz.lt
            have ngTrB := rB.lt
            have rT : Row (w2_10.alloc (.cells #[.slice none 0 0, .slice none 0 0] 74)) w2_10.heap.size #[.slice none 0 0, .slice none 0 0] 74 := Row.new _ _ _
            have rz := rz.alloc (.cells #[.slice none 0 0, .slice none 0 0] 74)
            have rB := rB.alloc (.cells #[.slice none 0 0, .slice none 0 0] 74)
            go_simp
            refine hK.out _ _ (⟨hS.1.alloc _, hS.2.alloc hS.2.size _⟩) fun hS => ?_
            try simp only [Act.put, List.getElem_toArray, List.getElem_cons_zero, List.getElem_cons_succ, List.setIfInBounds_toArray, List.set_cons_zero, List.set_cons_succ]
            generalize w2_10.alloc (.cells #[.slice none 0 0, .slice none 0 0] 74) = w3_12 at rT rz rB hS ⊢
            generalize w2_10.heap.size = gT at rT ngT ngTs0 ngTrz ngTrB ⊢
            refine wpAnyH_ready (rs := [5]) (by kernel_rfl) (by simp) ?_
            refine AllReadyH.cons rfl (fun K hK => ?_) AllReadyH.nil
            have cc := str_row rz n n (zs_length n)
            go_simp
            refine hK.out _ _ (hS) fun hS => ?_
            try simp only [Act.put, List.getElem_toArray, List.getElem_cons_zero, List.getElem_cons_succ, List.setIfInBounds_toArray, List.set_cons_zero, List.set_cons_succ]
            clear cc
            refine wpAnyH_ready (rs := [8]) (by kernel_rfl) (by simp) ?_
            refine AllReadyH.cons rfl (fun K hK => ?_) AllReadyH.nil
            have ngA := hS.2.size
            have ngAs0 := hS.1.lt
            have ngArz := rz.lt
            have ngArB := rB.lt
            have ngArT := rT.lt
            have rA : Row (w3_12.alloc (.cells #[.string (strOfNums (zs n)), .string S] 9)) w3_12.heap.size #[.string (strOfNums (zs n)), .string S] 9 := Row.new _ _ _
            have rz := rz.alloc (.cells #[.string (strOfNums (zs n)), .string S] 9)
            have rB := rB.alloc (.cells #[.string (strOfNums (zs n)), .string S] 9)
            have rT := rT.alloc (.cells #[.string (strOfNums (zs n)), .string S] 9)
            go_simp
            refine hK.out _ _ (⟨hS.1.alloc _, hS.2.alloc hS.2.size _⟩) fun hS => ?_
            try simp only [Act.put, List.getElem_toArray, List.getElem_cons_zero, List.getElem_cons_succ, List.setIfInBounds_toArray, List.set_cons_zero, List.set_cons_succ]
            generalize w3_12.alloc (.cells #[.string (strOfNums (zs n)), .string S] 9) = w5_8 at rA rz rB rT hS ⊢
            generalize w3_12.heap.size = gA at rA ngA ngAs0 ngArz ngArB ngArT ⊢
            refine wpAnyH_take (i := 11) (v := .agg #[.slice (some ⟨gA, 0, none⟩) 2 2, .slice (some ⟨gB, 0, none⟩) 1 1]) rfl (by kernel_rfl) (by kernel_rfl) (by kernel_rfl) (fun _ _ _ h => h) (Or.inl ⟨by rfl, fun w _ => by go_simp⟩) hS ?_
            try simp only [Act.put, List.getElem_toArray, List.getElem_cons_zero, List.getElem_cons_succ, List.setIfInBounds_toArray, List.set_cons_zero, List.set_cons_succ]
            refine wpAnyH_ready (rs := [13]) (by kernel_rfl) (by simp) ?_
            refine AllReadyH.cons rfl (fun K hK => ?_) AllReadyH.nil
            refine step_cells rfl 74 (.tmp 7) (.tmp 82) rfl gT #[.slice (some ⟨gA, 0, none⟩) 2 2, .slice (some ⟨gB, 0, none⟩) 1 1] rfl rfl 74 _ rT 2 size74 rfl rfl (by simp [Value.oneCell']) (hK.out _ _ ⟨hS.1.other (by omega) _, below_setRow hS.2 (by omega) _⟩ fun hS => ?_)
            try simp only [Act.put, List.getElem_toArray, List.getElem_cons_zero, List.getElem_cons_succ, List.setIfInBounds_toArray, List.set_cons_zero, List.set_cons_succ]
            have rz := rz.other (g := gT) (by omega) #[.slice (some ⟨gA, 0, none⟩) 2 2, .slice (some ⟨gB, 0, none⟩) 1 1]
            have rB := rB.other (g := gT) (by omega) #[.slice (some ⟨gA, 0, none⟩) 2 2, .slice (some ⟨gB, 0, none⟩) 1 1]
            have rA := rA.other (g := gT) (by omega) #[.slice (some ⟨gA, 0, none⟩) 2 2, .slice (some ⟨gB, 0, none⟩) 1 1]
            have rT := rT.set #[.slice (some ⟨gA, 0, none⟩) 2 2, .slice (some ⟨gB, 0, none⟩) 1 1]
            generalize w5_8.setRow gT #[.slice (some ⟨gA, 0, none⟩) 2 2, .slice (some ⟨gB, 0, none⟩) 1 1] = w6_13 at rz rB rT rA hS ⊢
            refine wpAnyH_done (by kernel_rfl) ?_ _
            go_wp2
            go_meet
            exact ⟨gA, gB, gT, rfl, rA, rB, rT, hS.1, hS.2, by omega, by omega, by omega⟩

          ) AllReadyH.nil))
        ) (AllReadyH.cons rfl (fun K hK => by
          have ngT := hS.2.size
          have ngTs0 := hS.1.lt
          have ngTrz := rz.lt
          have rT : Row (wm.alloc (.cells #[.slice none 0 0, .slice none 0 0] 74)) wm.heap.size #[.slice none 0 0, .slice none 0 0] 74 := Row.new _ _ _
          have rz := rz.alloc (.cells #[.slice none 0 0, .slice none 0 0] 74)
          go_simp
          refine hK.out _ _ (⟨hS.1.alloc _, hS.2.alloc hS.2.size _⟩) fun hS => ?_
          try simp only [Act.put, List.getElem_toArray, List.getElem_cons_zero, List.getElem_cons_succ, List.setIfInBounds_toArray, List.set_cons_zero, List.set_cons_succ]
          generalize wm.alloc (.cells #[.slice none 0 0, .slice none 0 0] 74) = w2_12 at rT rz hS ⊢
          generalize wm.heap.size = gT at rT ngT ngTs0 ngTrz ⊢
          refine wpAnyH_ready (rs := [5, 10]) (by kernel_rfl) (by simp) ?_
          exact (AllReadyH.cons rfl (fun K hK => by
            have cc := str_row rz n n (zs_length n)
            go_simp
            refine hK.out _ _ (hS) fun hS => ?_
            try simp only [Act.put, List.getElem_toArray, List.getElem_cons_zero, List.getElem_cons_succ, List.setIfInBounds_toArray, List.set_cons_zero, List.set_cons_succ]
            clear cc
            refine wpAnyH_ready (rs := [8, 10]) (by kernel_rfl) (by simp) ?_
            exact (AllReadyH.cons rfl (fun K hK => by
              have ngA := hS.2.size
              have ngAs0 := hS.1.lt
              have ngArz := rz.lt
              have ngArT := rT.lt
              have rA : Row (w2_12.alloc (.cells #[.string (strOfNums (zs n)), .string S] 9)) w2_12.heap.size #[.string (strOfNums (zs n)), .string S] 9 := Row.new _ _ _
              have rz := rz.alloc (.cells #[.string (strOfNums (zs n)), .string S] 9)
              have rT := rT.alloc (.cells #[.string (strOfNums (zs n)), .string S] 9)
              go_simp
              refine hK.out _ _ (⟨hS.1.alloc _, hS.2.alloc hS.2.size _⟩) fun hS => ?_
              try simp only [Act.put, List.getElem_toArray, List.getElem_cons_zero, List.getElem_cons_succ, List.setIfInBounds_toArray, List.set_cons_zero, List.set_cons_succ]
              generalize w2_12.alloc (.cells #[.string (strOfNums (zs n)), .string S] 9) = w4_8 at rA rz rT hS ⊢
              generalize w2_12.heap.size = gA at rA ngA ngAs0 ngArz ngArT ⊢
              refine wpAnyH_ready (rs := [10]) (by kernel_rfl) (by simp) ?_
              refine AllReadyH.cons rfl (fun K hK => ?_) AllReadyH.nil
              have ngB := hS.2.size
              have ngBs0 := hS.1.lt
              have ngBrz := rz.lt
              have ngBrT := rT.lt
              have ngBrA := rA.lt
              have rB : Row (w4_8.alloc (.cells #[.string oth] 9)) w4_8.heap.size #[.string oth] 9 := Row.new _ _ _
              have rz := rz.alloc (.cells #[.string oth] 9)
              have rT := rT.alloc (.cells #[.string oth] 9)
              have rA := rA.alloc (.cells #[.string oth] 9)
              go_simp
              refine hK.out _ _ (⟨hS.1.alloc _, hS.2.alloc hS.2.size _⟩) fun hS => ?_
              try simp only [Act.put, List.getElem_toArray, List.getElem_cons_zero, List.getElem_cons_succ, List.setIfInBounds_toArray, List.set_cons_zero, List.set_cons_succ]
              generalize w4_8.alloc (.cells #[.string oth] 9) = w5_10 at rB rz rT rA hS ⊢
              generalize w4_8.heap.size = gB at rB ngB ngBs0 ngBrz ngBrT ngBrA ⊢
              refine wpAnyH_take (i := 11) (v := .agg #[.slice (some ⟨gA, 0, none⟩) 2 2, .slice (some ⟨gB, 0, none⟩) 1 1]) rfl (by kernel_rfl) (by kernel_rfl) (by kernel_rfl) (fun _ _ _ h => h) (Or.inl ⟨by rfl, fun w _ => by go_simp⟩) hS ?_
              try simp only [Act.put, List.getElem_toArray, List.getElem_cons_zero, List.getElem_cons_succ, List.setIfInBounds_toArray, List.set_cons_zero, List.set_cons_succ]
              refine wpAnyH_ready (rs := [13]) (by kernel_rfl) (by simp) ?_
              refine AllReadyH.cons rfl (fun K hK => ?_) AllReadyH.nil
              refine step_cells rfl 74 (.tmp 7) (.tmp 82) rfl gT #[.slice (some ⟨gA, 0, none⟩) 2 2, .slice (some ⟨gB, 0, none⟩) 1 1] rfl rfl 74 _ rT 2 size74 rfl rfl (by simp [Value.oneCell']) (hK.out _ _ ⟨hS.1.other (by omega) _, below_setRow hS.2 (by omega) _⟩ fun hS => ?_)
              try simp only [Act.put, List.getElem_toArray, List.getElem_cons_zero, List.getElem_cons_succ, List.setIfInBounds_toArray, List.set_cons_zero, List.set_cons_succ]
              have rz := rz.other (g := gT) (by omega) #[.slice (some ⟨gA, 0, none⟩) 2 2, .slice (some ⟨gB, 0, none⟩) 1 1]
              have rA := rA.other (g := gT) (by omega) #[.slice (some ⟨gA, 0, none⟩) 2 2, .slice (some ⟨gB, 0, none⟩) 1 1]
              have rB := rB.other (g := gT) (by omega) #[.slice (some ⟨gA, 0, none⟩) 2 2, .slice (some ⟨gB, 0, none⟩) 1 1]
              have rT := rT.set #[.slice (some ⟨gA, 0, none⟩) 2 2, .slice (some ⟨gB, 0, none⟩) 1 1]
              generalize w5_10.setRow gT #[.slice (some ⟨gA, 0, none⟩) 2 2, .slice (some ⟨gB, 0, none⟩) 1 1] = w6_13 at rz rT rA rB hS ⊢
              refine wpAnyH_done (by kernel_rfl) ?_ _
              go_wp2
              go_meet
              exact ⟨gA, gB, gT, rfl, rA, rB, rT, hS.1, hS.2, by omega, by omega, by omega⟩

            ) (AllReadyH.cons rfl (fun K hK => by
              have ngB := hS.2.size
              have ngBs0 := hS.1.lt
              have ngBrz := rz.lt
              have ngBrT := rT.lt
              have rB : Row (w2_12.alloc (.cells #[.string oth] 9)) w2_12.heap.size #[.string oth] 9 := Row.new _ _ _
              have rz := rz.alloc (.cells #[.string oth] 9)
              have rT := rT.alloc (.cells #[.string oth] 9)
              go_simp
              refine hK.out _ _ (⟨hS.1.alloc _, hS.2.alloc hS.2.size _⟩) fun hS => ?_
              try simp only [Act.put, List.getElem_toArray, List.getElem_cons_zero, List.getElem_cons_succ, List.setIfInBounds_toArray, List.set_cons_zero, List.set_cons_succ]
              generalize w2_12.alloc (.cells #[.string oth] 9) = w4_10 at rB rz rT hS ⊢
              generalize w2_12.heap.size = gB at rB ngB ngBs0 ngBrz ngBrT ⊢
              refine wpAnyH_ready (rs := [8]) (by kernel_rfl) (by simp) ?_
              refine AllReadyH.cons rfl (fun K hK => ?_) AllReadyH.nil
              have ngA := hS.2.size
              have ngAs0 := hS.1.lt
              have ngArz := rz.lt
              have ngArT := rT.lt
              have ngArB := rB.lt
              have rA : Row (w4_10.alloc (.cells #[.string (strOfNums (zs n)), .string S] 9)) w4_10.heap.size #[.string (strOfNums (zs n)), .string S] 9 := Row.new _ _ _
              have rz := rz.alloc (.cells #[.string (strOfNums (zs n)), .string S] 9)
              have rT := rT.alloc (.cells #[.string (strOfNums (zs n)), .string S] 9)
              have rB := rB.alloc (.cells #[.string (strOfNums (zs n)), .string S] 9)
              go_simp
              refine hK.out _ _ (⟨hS.1.alloc _, hS.2.alloc hS.2.size _⟩) fun hS => ?_
              try simp only [Act.put, List.getElem_toArray, List.getElem_cons_zero, List.getElem_cons_succ, List.setIfInBounds_toArray, List.set_cons_zero, List.set_cons_succ]
              generalize w4_10.alloc (.cells #[.string (strOfNums (zs n)), .string S] 9) = w5_8 at rA rz rT rB hS ⊢
              generalize w4_10.heap.size = gA at rA ngA ngAs0 ngArz ngArT ngArB ⊢
              refine wpAnyH_take (i := 11) (v := .agg #[.slice (some ⟨gA, 0, none⟩) 2 2, .slice (some ⟨gB, 0, none⟩) 1 1]) rfl (by kernel_rfl) (by kernel_rfl) (by kernel_rfl) (fun _ _ _ h => h) (Or.inl ⟨by rfl, fun w _ => by go_simp⟩) hS ?_
              try simp only [Act.put, List.getElem_toArray, List.getElem_cons_zero, List.getElem_cons_succ, List.setIfInBounds_toArray, List.set_cons_zero, List.set_cons_succ]
              refine wpAnyH_ready (rs := [13]) (by kernel_rfl) (by simp) ?_
              refine AllReadyH.cons rfl (fun K hK => ?_) AllReadyH.nil
              refine step_cells rfl 74 (.tmp 7) (.tmp 82) rfl gT #[.slice (some ⟨gA, 0, none⟩) 2 2, .slice (some ⟨gB, 0, none⟩) 1 1] rfl rfl 74 _ rT 2 size74 rfl rfl (by simp [Value.oneCell']) (hK.out _ _ ⟨hS.1.other (by omega) _, below_setRow hS.2 (by omega) _⟩ fun hS => ?_)
              try simp only [Act.put, List.getElem_toArray, List.getElem_cons_zero, List.getElem_cons_succ, List.setIfInBounds_toArray, List.set_cons_zero, List.set_cons_succ]
              have rz := rz.other (g := gT) (by omega) #[.slice (some ⟨gA, 0, none⟩) 2 2, .slice (some ⟨gB, 0, none⟩) 1 1]
              have rB := rB.other (g := gT) (by omega) #[.slice (some ⟨gA, 0, none⟩) 2 2, .slice (some ⟨gB, 0, none⟩) 1 1]
              have rA := rA.other (g := gT) (by omega) #[.slice (some ⟨gA, 0, none⟩) 2 2, .slice (some ⟨gB, 0, none⟩) 1 1]
              have rT := rT.set #[.slice (some ⟨gA, 0, none⟩) 2 2, .slice (some ⟨gB, 0, none⟩) 1 1]
              generalize w5_8.setRow gT #[.slice (some ⟨gA, 0, none⟩) 2 2, .slice (some ⟨gB, 0, none⟩) 1 1] = w6_13 at rz rT rB rA hS ⊢
              refine wpAnyH_done (by kernel_rfl) ?_ _
              go_wp2
              go_meet
              exact ⟨gA, gB, gT, rfl, rA, rB, rT, hS.1, hS.2, by omega, by omega, by omega⟩

            ) AllReadyH.nil))
          ) (AllReadyH.cons rfl (fun K hK => by
            have ngB := hS.2.size
            have ngBs0 := hS.1.lt
            have ngBrz := rz.lt
            have ngBrT := rT.lt
            have rB : Row (w2_12.alloc (.cells #[.string oth] 9)) w2_12.heap.size #[.string oth] 9 := Row.new _ _ _
            have rz := rz.alloc (.cells #[.string oth] 9)
            have rT := rT.alloc (.cells #[.string oth] 9)
            go_simp
            refine hK.out _ _ (⟨hS.1.alloc _, hS.2.alloc hS.2.size _⟩) fun hS => ?_
            try simp only [Act.put, List.getElem_toArray, List.getElem_cons_zero, List.getElem_cons_succ, List.setIfInBounds_toArray, List.set_cons_zero, List.set_cons_succ]
            generalize w2_12.alloc (.cells #[.string oth] 9) = w3_10 at rB rz rT hS ⊢
            generalize w2_12.heap.size = gB at rB ngB ngBs0 ngBrz ngBrT ⊢
            refine wpAnyH_ready (rs := [5]) (by kernel_rfl) (by simp) ?_
            refine AllReadyH.cons rfl (fun K hK => ?_) AllReadyH.nil
            have cc := str_row rz n n (zs_length n)
            go_simp
            refine hK.out _ _ (hS) fun hS => ?_
            try simp only [Act.put, List.getElem_toArray, List.getElem_cons_zero, List.getElem_cons_succ, List.setIfInBounds_toArray, List.set_cons_zero, List.set_cons_succ]
            clear cc
            refine wpAnyH_ready (rs := [8]) (by kernel_rfl) (by simp) ?_
            refine AllReadyH.cons rfl (fun K hK => ?_) AllReadyH.nil
            have ngA := hS.2.size
            have ngAs0 := hS.1.lt
            have ngArz := rz.lt
            have ngArT := rT.lt
            have ngArB := rB.lt
            have rA : Row (w3_10.alloc (.cells #[.string (strOfNums (zs n)), .string S] 9)) w3_10.heap.size #[.string (strOfNums (zs n)), .string S] 9 := Row.new _ _ _
            have rz := rz.alloc (.cells #[.string (strOfNums (zs n)), .string S] 9)
            have rT := rT.alloc (.cells #[.string (strOfNums (zs n)), .string S] 9)
            have rB := rB.alloc (.cells #[.string (strOfNums (zs n)), .string S] 9)
            go_simp
            refine hK.out _ _ (⟨hS.1.alloc _, hS.2.alloc hS.2.size _⟩) fun hS => ?_
            try simp only [Act.put, List.getElem_toArray, List.getElem_cons_zero, List.getElem_cons_succ, List.setIfInBounds_toArray, List.set_cons_zero, List.set_cons_succ]
            generalize w3_10.alloc (.cells #[.string (strOfNums (zs n)), .string S] 9) = w5_8 at rA rz rT rB hS ⊢
            generalize w3_10.heap.size = gA at rA ngA ngAs0 ngArz ngArT ngArB ⊢
            refine wpAnyH_take (i := 11) (v := .agg #[.slice (some ⟨gA, 0, none⟩) 2 2, .slice (some ⟨gB, 0, none⟩) 1 1]) rfl (by kernel_rfl) (by kernel_rfl) (by kernel_rfl) (fun _ _ _ h => h) (Or.inl ⟨by rfl, fun w _ => by go_simp⟩) hS ?_
            try simp only [Act.put, List.getElem_toArray, List.getElem_cons_zero, List.getElem_cons_succ, List.setIfInBounds_toArray, List.set_cons_zero, List.set_cons_succ]
            refine wpAnyH_ready (rs := [13]) (by kernel_rfl) (by simp) ?_
            refine AllReadyH.cons rfl (fun K hK => ?_) AllReadyH.nil
            refine step_cells rfl 74 (.tmp 7) (.tmp 82) rfl gT #[.slice (some ⟨gA, 0, none⟩) 2 2, .slice (some ⟨gB, 0, none⟩) 1 1] rfl rfl 74 _ rT 2 size74 rfl rfl (by simp [Value.oneCell']) (hK.out _ _ ⟨hS.1.other (by omega) _, below_setRow hS.2 (by omega) _⟩ fun hS => ?_)
            try simp only [Act.put, List.getElem_toArray, List.getElem_cons_zero, List.getElem_cons_succ, List.setIfInBounds_toArray, List.set_cons_zero, List.set_cons_succ]
            have rz := rz.other (g := gT) (by omega) #[.slice (some ⟨gA, 0, none⟩) 2 2, .slice (some ⟨gB, 0, none⟩) 1 1]
            have rB := rB.other (g := gT) (by omega) #[.slice (some ⟨gA, 0, none⟩) 2 2, .slice (some ⟨gB, 0, none⟩) 1 1]
            have rA := rA.other (g := gT) (by omega) #[.slice (some ⟨gA, 0, none⟩) 2 2, .slice (some ⟨gB, 0, none⟩) 1 1]
            have rT := rT.set #[.slice (some ⟨gA, 0, none⟩) 2 2, .slice (some ⟨gB, 0, none⟩) 1 1]
            generalize w5_8.setRow gT #[.slice (some ⟨gA, 0, none⟩) 2 2, .slice (some ⟨gB, 0, none⟩) 1 1] = w6_13 at rz rT rB rA hS ⊢
            refine wpAnyH_done (by kernel_rfl) ?_ _
            go_wp2
            go_meet
            exact ⟨gA, gB, gT, rfl, rA, rB, rT, hS.1, hS.2, by omega, by omega, by omega⟩

          ) AllReadyH.nil))
        ) AllReadyH.nil)))
      ) (AllReadyH.cons rfl (fun K hK => by
        have ngB := hS.2.size
        have ngBs0 := hS.1.lt
        have rB : Row (W0.alloc (.cells #[.string oth] 9)) W0.heap.size #[.string oth] 9 := Row.new _ _ _
        go_simp
        refine hK.out _ _ (⟨hS.1.alloc _, hS.2.alloc hS.2.size _⟩) fun hS => ?_
        try simp only [Act.put, List.getElem_toArray, List.getElem_cons_zero, List.getElem_cons_succ, List.setIfInBounds_toArray, List.set_cons_zero, List.set_cons_succ]
        generalize W0.alloc (.cells #[.string oth] 9) = w1_10 at rB  hS ⊢
        generalize W0.heap.size = gB at rB ngB ngBs0 ⊢
        refine wpAnyH_ready (rs := [4, 12]) (by kernel_rfl) (by simp) ?_
        exact (AllReadyH.cons rfl (fun K hK => by
          have nz := hS.2.size
          have nz0 := hS.1.lt
          have nzrB := rB.lt
          have rz : Row (w1_10.alloc (.cells (madeCells #[.int .u8 0] n) 5)) w1_10.heap.size (bs (zs n)) 5 := by rw [← made_zs]; exact Row.new _ _ _
          have rB := rB.alloc (.cells (madeCells #[.int .u8 0] n) 5)
          have hm9 := hmk w1_10
          go_simp
          refine hK.out _ _ (⟨hS.1.alloc _, hS.2.alloc hS.2.size _⟩) fun hS => ?_
          try simp only [Act.put, List.getElem_toArray, List.getElem_cons_zero, List.getElem_cons_succ, List.setIfInBounds_toArray, List.set_cons_zero, List.set_cons_succ]
          clear hm9
          generalize w1_10.alloc (.cells (madeCells #[.int .u8 0] n) 5) = wm at rz rB hS ⊢
          generalize w1_10.heap.size = gz at rz nz nzrB ⊢
          refine wpAnyH_ready (rs := [5, 12]) (by kernel_rfl) (by simp) ?_
          exact (AllReadyH.cons rfl (fun K hK => by
            have cc := str_row rz n n (zs_length n)
            go_simp
            refine hK.out _ _ (hS) fun hS => ?_
            try simp only [Act.put, List.getElem_toArray, List.getElem_cons_zero, List.getElem_cons_succ, List.setIfInBounds_toArray, List.set_cons_zero, List.set_cons_succ]
            clear cc
            refine wpAnyH_ready (rs := [8, 12]) (by kernel_rfl) (by simp) ?_
            exact (AllReadyH.cons rfl (fun K hK => by
              have ngA := hS.2.size
              have ngAs0 := hS.1.lt
              have ngArB := rB.lt
              have ngArz := rz.lt
              have rA : Row (wm.alloc (.cells #[.string (strOfNums (zs n)), .string S] 9)) wm.heap.size #[.string (strOfNums (zs n)), .string S] 9 := Row.new _ _ _
              have rB := rB.alloc (.cells #[.string (strOfNums (zs n)), .string S] 9)
              have rz := rz.alloc (.cells #[.string (strOfNums (zs n)), .string S] 9)
              go_simp
              refine hK.out _ _ (⟨hS.1.alloc _, hS.2.alloc hS.2.size _⟩) fun hS => ?_
              try simp only [Act.put, List.getElem_toArray, List.getElem_cons_zero, List.getElem_cons_succ, List.setIfInBounds_toArray, List.set_cons_zero, List.set_cons_succ]
              generalize wm.alloc (.cells #[.string (strOfNums (zs n)), .string S] 9) = w4_8 at rA rB rz hS ⊢
              generalize wm.heap.size = gA at rA ngA ngAs0 ngArB ngArz ⊢
              refine wpAnyH_take (i := 11) (v := .agg #[.slice (some ⟨gA, 0, none⟩) 2 2, .slice (some ⟨gB, 0, none⟩) 1 1]) rfl (by kernel_rfl) (by kernel_rfl) (by kernel_rfl) (fun _ _ _ h => h) (Or.inl ⟨by rfl, fun w _ => by go_simp⟩) hS ?_
              try simp only [Act.put, List.getElem_toArray, List.getElem_cons_zero, List.getElem_cons_succ, List.setIfInBounds_toArray, List.set_cons_zero, List.set_cons_succ]
              refine wpAnyH_ready (rs := [12]) (by kernel_rfl) (by simp) ?_
              refine AllReadyH.cons rfl (fun K hK => ?_) AllReadyH.nil
              have ngT := hS.2.size
              have ngTs0 := hS.1.lt
              have ngTrB := rB.lt
              have ngTrz := rz.lt
              have ngTrA := rA.lt
              have rT : Row (w4_8.alloc (.cells #[.slice none 0 0, .slice none 0 0] 74)) w4_8.heap.size #[.slice none 0 0, .slice none 0 0] 74 := Row.new _ _ _
              have rB := rB.alloc (.cells #[.slice none 0 0, .slice none 0 0] 74)
              have rz := rz.alloc (.cells #[.slice none 0 0, .slice none 0 0] 74)
              have rA := rA.alloc (.cells #[.slice none 0 0, .slice none 0 0] 74)
              go_simp
              refine hK.out _ _ (⟨hS.1.alloc _, hS.2.alloc hS.2.size _⟩) fun hS => ?_
              try simp only [Act.put, List.getElem_toArray, List.getElem_cons_zero, List.getElem_cons_succ, List.setIfInBounds_toArray, List.set_cons_zero, List.set_cons_succ]
              generalize w4_8.alloc (.cells #[.slice none 0 0, .slice none 0 0] 74) = w5_12 at rT rB rz rA hS ⊢
              generalize w4_8.heap.size = gT at rT ngT ngTs0 ngTrB ngTrz ngTrA ⊢
              refine wpAnyH_ready (rs := [13]) (by kernel_rfl) (by simp) ?_
              refine AllReadyH.cons rfl (fun K hK => ?_) AllReadyH.nil
              refine step_cells rfl 74 (.tmp 7) (.tmp 82) rfl gT #[.slice (some ⟨gA, 0, none⟩) 2 2, .slice (some ⟨gB, 0, none⟩) 1 1] rfl rfl 74 _ rT 2 size74 rfl rfl (by simp [Value.oneCell']) (hK.out _ _ ⟨hS.1.other (by omega) _, below_setRow hS.2 (by omega) _⟩ fun hS => ?_)
              try simp only [Act.put, List.getElem_toArray, List.getElem_cons_zero, List.getElem_cons_succ, List.setIfInBounds_toArray, List.set_cons_zero, List.set_cons_succ]
              have rB := rB.other (g := gT) (by omega) #[.slice (some ⟨gA, 0, none⟩) 2 2, .slice (some ⟨gB, 0, none⟩) 1 1]
              have rz := rz.other (g := gT) (by omega) #[.slice (some ⟨gA, 0, none⟩) 2 2, .slice (some ⟨gB, 0, none⟩) 1 1]
              have rA := rA.other (g := gT) (by omega) #[.slice (some ⟨gA, 0, none⟩) 2 2, .slice (some ⟨gB, 0, none⟩) 1 1]
              have rT := rT.set #[.slice (some ⟨gA, 0, none⟩) 2 2, .slice (some ⟨gB, 0, none⟩) 1 1]
              generalize w5_12.setRow gT #[.slice (some ⟨gA, 0, none⟩) 2 2, .slice (some ⟨gB, 0, none⟩) 1 1] = w6_13 at rB rz rA rT hS ⊢
              refine wpAnyH_done (by kernel_rfl) ?_ _
              go_wp2
              go_meet
              exact ⟨gA, gB, gT, rfl, rA, rB, rT, hS.1, hS.2, by omega, by omega, by omega⟩

            ) (AllReadyH.cons rfl (fun K hK => by
              have ngT := hS.2.size
              have ngTs0 := hS.1.lt
              have ngTrB := rB.lt
              have ngTrz := rz.lt
              have rT : Row (wm.alloc (.cells #[.slice none 0 0, .slice none 0 0] 74)) wm.heap.size #[.slice none 0 0, .slice none 0 0] 74 := Row.new _ _ _
              have rB := rB.alloc (.cells #[.slice none 0 0, .slice none 0 0] 74)
              have rz := rz.alloc (.cells #[.slice none 0 0, .slice none 0 0] 74)
              go_simp
              refine hK.out _ _ (⟨hS.1.alloc _, hS.2.alloc hS.2.size _⟩) fun hS => ?_
              try simp only [Act.put, List.getElem_toArray, List.getElem_cons_zero, List.getElem_cons_succ, List.setIfInBounds_toArray, List.set_cons_zero, List.set_cons_succ]
              generalize wm.alloc (.cells #[.slice none 0 0, .slice none 0 0] 74) = w4_12 at rT rB rz hS ⊢
              generalize wm.heap.size = gT at rT ngT ngTs0 ngTrB ngTrz ⊢
              refine wpAnyH_ready (rs := [8]) (by kernel_rfl) (by simp) ?_
              refine AllReadyH.cons rfl (fun K hK => ?_) AllReadyH.nil
              have ngA := hS.2.size
              have ngAs0 := hS.1.lt
              have ngArB := rB.lt
              have ngArz := rz.lt
              have ngArT := rT.lt
              have rA : Row (w4_12.alloc (.cells #[.string (strOfNums (zs n)), .string S] 9)) w4_12.heap.size #[.string (strOfNums (zs n)), .string S] 9 := Row.new _ _ _
              have rB := rB.alloc (.cells #[.string (strOfNums (zs n)), .string S] 9)
              have rz := rz.alloc (.cells #[.string (strOfNums (zs n)), .string S] 9)
              have rT := rT.alloc (.cells #[.string (strOfNums (zs n)), .string S] 9)
              go_simp
              refine hK.out _ _ (⟨hS.1.alloc _, hS.2.alloc hS.2.size _⟩) fun hS => ?_
              try simp only [Act.put, List.getElem_toArray, List.getElem_cons_zero, List.getElem_cons_succ, List.setIfInBounds_toArray, List.set_cons_zero, List.set_cons_succ]
              generalize w4_12.alloc (.cells #[.string (strOfNums (zs n)), .string S] 9) = w5_8 at rA rB rz rT hS ⊢
              generalize w4_12.heap.size = gA at rA ngA ngAs0 ngArB ngArz ngArT ⊢
              refine wpAnyH_take (i := 11) (v := .agg #[.slice (some ⟨gA, 0, none⟩) 2 2, .slice (some ⟨gB, 0, none⟩) 1 1]) rfl (by kernel_rfl) (by kernel_rfl) (by kernel_rfl) (fun _ _ _ h => h) (Or.inl ⟨by rfl, fun w _ => by go_simp⟩) hS ?_
              try simp only [Act.put, List.getElem_toArray, List.getElem_cons_zero, List.getElem_cons_succ, List.setIfInBounds_toArray, List.set_cons_zero, List.set_cons_succ]
              refine wpAnyH_ready (rs := [13]) (by kernel_rfl) (by simp) ?_
              refine AllReadyH.cons rfl (fun K hK => ?_) AllReadyH.nil
              refine step_cells rfl 74 (.tmp 7) (.tmp 82) rfl gT #[.slice (some ⟨gA, 0, none⟩) 2 2, .slice (some ⟨gB, 0, none⟩) 1 1] rfl rfl 74 _ rT 2 size74 rfl rfl (by simp [Value.oneCell']) (hK.out _ _ ⟨hS.1.other (by omega) _, below_setRow hS.2 (by omega) _⟩ fun hS => ?_)
              try simp only [Act.put, List.getElem_toArray, List.getElem_cons_zero, List.getElem_cons_succ, List.setIfInBounds_toArray, List.set_cons_zero, List.set_cons_succ]
              have rB := rB.other (g := gT) (by omega) #[.slice (some ⟨gA, 0, none⟩) 2 2, .slice (some ⟨gB, 0, none⟩) 1 1]
              have rz := rz.other (g := gT) (by omega) #[.slice (some ⟨gA, 0, none⟩) 2 2, .slice (some ⟨gB, 0, none⟩) 1 1]
              have rA := rA.other (g := gT) (by omega) #[.slice (some ⟨gA, 0, none⟩) 2 2, .slice (some ⟨gB, 0, none⟩) 1 1]
              have rT := rT.set #[.slice (some ⟨gA, 0, none⟩) 2 2, .slice (some ⟨gB, 0, none⟩) 1 1]
              generalize w5_8.setRow gT #[.slice (some ⟨gA, 0, none⟩) 2 2, .slice (some ⟨gB, 0, none⟩) 1 1] = w6_13 at rB rz rT rA hS ⊢
              refine wpAnyH_done (by kernel_rfl) ?_ _
              go_wp2
              go_meet
              exact ⟨gA, gB, gT, rfl, rA, rB, rT, hS.1, hS.2, by omega, by omega, by omega⟩

            ) AllReadyH.nil))
          ) (AllReadyH.cons rfl (fun K hK => by
            have ngT := hS.2.size
            have ngTs0 := hS.1.lt
            have ngTrB := rB.lt
            have ngTrz := rz.lt
            have rT : Row (wm.alloc (.cells #[.slice none 0 0, .slice none 0 0] 74)) wm.heap.size #[.slice none 0 0, .slice none 0 0] 74 := Row.new _ _ _
            have rB := rB.alloc (.cells #[.slice none 0 0, .slice none 0 0] 74)
            have rz := rz.alloc (.cells #[.slice none 0 0, .slice none 0 0] 74)
            go_simp
            refine hK.out _ _ (⟨hS.1.alloc _, hS.2.alloc hS.2.size _⟩) fun hS => ?_
            try simp only [Act.put, List.getElem_toArray, List.getElem_cons_zero, List.getElem_cons_succ, List.setIfInBounds_toArray, List.set_cons_zero, List.set_cons_succ]
            generalize wm.alloc (.cells #[.slice none 0 0, .slice none 0 0] 74) = w3_12 at rT rB rz hS ⊢
            generalize wm.heap.size = gT at rT ngT ngTs0 ngTrB ngTrz ⊢
            refine wpAnyH_ready (rs := [5]) (by kernel_rfl) (by simp) ?_
            refine AllReadyH.cons rfl (fun K hK => ?_) AllReadyH.nil
            have cc := str_row rz n n (zs_length n)
            go_simp
            refine hK.out _ _ (hS) fun hS => ?_
            try simp only [Act.put, List.getElem_toArray, List.getElem_cons_zero, List.getElem_cons_succ, List.setIfInBounds_toArray, List.set_cons_zero, List.set_cons_succ]
            clear cc
            refine wpAnyH_ready (rs := [8]) (by kernel_rfl) (by simp) ?_
            refine AllReadyH.cons rfl (fun K hK => ?_) AllReadyH.nil
            have ngA := hS.2.size
            have ngAs0 := hS.1.lt
            have ngArB := rB.lt
            have ngArz := rz.lt
            have ngArT := rT.lt
            have rA : Row (w3_12.alloc (.cells #[.string (strOfNums (zs n)), .string S] 9)) w3_12.heap.size #[.string (strOfNums (zs n)), .string S] 9 := Row.new _ _ _
            have rB := rB.alloc (.cells #[.string (strOfNums (zs n)), .string S] 9)
            have rz := rz.alloc (.cells #[.string (strOfNums (zs n)), .string S] 9)
            have rT := rT.alloc (.cells #[.string (strOfNums (zs n)), .string S] 9)
            go_simp
            refine hK.out _ _ (⟨hS.1.alloc _, hS.2.alloc hS.2.size _⟩) fun hS => ?_
            try simp only [Act.put, List.getElem_toArray, List.getElem_cons_zero, List.getElem_cons_succ, List.setIfInBounds_toArray, List.set_cons_zero, List.set_cons_succ]
            generalize w3_12.alloc (.cells #[.string (strOfNums (zs n)), .string S] 9) = w5_8 at rA rB rz rT hS ⊢
            generalize w3_12.heap.size = gA at rA ngA ngAs0 ngArB ngArz ngArT ⊢
            refine wpAnyH_take (i := 11) (v := .agg #[.slice (some ⟨gA, 0, none⟩) 2 2, .slice (some ⟨gB, 0, none⟩) 1 1]) rfl (by kernel_rfl) (by kernel_rfl) (by kernel_rfl) (fun _ _ _ h => h) (Or.inl ⟨by rfl, fun w _ => by go_simp⟩) hS ?_
            try simp only [Act.put, List.getElem_toArray, List.getElem_cons_zero, List.getElem_cons_succ, List.setIfInBounds_toArray, List.set_cons_zero, List.set_cons_succ]
            refine wpAnyH_ready (rs := [13]) (by kernel_rfl) (by simp) ?_
            refine AllReadyH.cons rfl (fun K hK => ?_) AllReadyH.nil
            refine step_cells rfl 74 (.tmp 7) (.tmp 82) rfl gT #[.slice (some ⟨gA, 0, none⟩) 2 2, .slice (some ⟨gB, 0, none⟩) 1 1] rfl rfl 74 _ rT 2 size74 rfl rfl (by simp [Value.oneCell']) (hK.out _ _ ⟨hS.1.other (by omega) _, below_setRow hS.2 (by omega) _⟩ fun hS => ?_)
            try simp only [Act.put, List.getElem_toArray, List.getElem_cons_zero, List.getElem_cons_succ, List.setIfInBounds_toArray, List.set_cons_zero, List.set_cons_succ]
            have rB := rB.other (g := gT) (by omega) #[.slice (some ⟨gA, 0, none⟩) 2 2, .slice (some ⟨gB, 0, none⟩) 1 1]
            have rz := rz.other (g := gT) (by omega) #[.slice (some ⟨gA, 0, none⟩) 2 2, .slice (some ⟨gB, 0, none⟩) 1 1]
            have rA := rA.other (g := gT) (by omega) #[.slice (some ⟨gA, 0, none⟩) 2 2, .slice (some ⟨gB, 0, none⟩) 1 1]
            have rT := rT.set #[.slice (some ⟨gA, 0, none⟩) 2 2, .slice (some ⟨gB, 0, none⟩) 1 1]
            generalize w5_8.setRow gT #[.slice (some ⟨gA, 0, none⟩) 2 2, .slice (some ⟨gB, 0, none⟩) 1 1] = w6_13 at rB rz rT rA hS ⊢
            refine wpAnyH_done (by kernel_rfl) ?_ _
            go_wp2
            go_meet
            exact ⟨gA, gB, gT, rfl, rA, rB, rT, hS.1, hS.2, by omega, by omega, by omega⟩

          ) AllReadyH.nil))
        ) (AllReadyH.cons rfl (fun K hK => by
          have ngT := hS.2.size
          have ngTs0 := hS.1.lt
          have ngTrB := rB.lt
          have rT : Row (w1_10.alloc (.cells #[.slice none 0 0, .slice none 0 0] 74)) w1_10.heap.size #[.slice none 0 0, .slice none 0 0] 74 := Row.new _ _ _
          have rB := rB.alloc (.cells #[.slice none 0 0, .slice none 0 0] 74)
          go_simp
          refine hK.out _ _ (⟨hS.1.alloc _, hS.2.alloc hS.2.size _⟩) fun hS => ?_
          try simp only [Act.put, List.getElem_toArray, List.getElem_cons_zero, List.getElem_cons_succ, List.setIfInBounds_toArray, List.set_cons_zero, List.set_cons_succ]
          generalize w1_10.alloc (.cells #[.slice none 0 0, .slice none 0 0] 74) = w2_12 at rT rB hS ⊢
          generalize w1_10.heap.size = gT at rT ngT ngTs0 ngTrB ⊢
          refine wpAnyH_ready (rs := [4]) (by kernel_rfl) (by simp) ?_
          refine AllReadyH.cons rfl (fun K hK => ?_) AllReadyH.nil
          have nz := hS.2.size
          have nz0 := hS.1.lt
          have nzrB := rB.lt
          have nzrT := rT.lt
          have rz : Row (w2_12.alloc (.cells (madeCells #[.int .u8 0] n) 5)) w2_12.heap.size (bs (zs n)) 5 := by rw [← made_zs]; exact Row.new _ _ _
          have rB := rB.alloc (.cells (madeCells #[.int .u8 0] n) 5)
          have rT := rT.alloc (.cells (madeCells #[.int .u8 0] n) 5)
          have hm9 := hmk w2_12
          go_simp
          refine hK.out _ _ (⟨hS.1.alloc _, hS.2.alloc hS.2.size _⟩) fun hS => ?_
          try simp only [Act.put, List.getElem_toArray, List.getElem_cons_zero, List.getElem_cons_succ, List.setIfInBounds_toArray, List.set_cons_zero, List.set_cons_succ]
          clear hm9
          generalize w2_12.alloc (.cells (madeCells #[.int .u8 0] n) 5) = wm at rz rB rT hS ⊢
          generalize w2_12.heap.size = gz at rz nz nzrB nzrT ⊢
          refine wpAnyH_ready (rs := [5]) (by kernel_rfl) (by simp) ?_
          refine AllReadyH.cons rfl (fun K hK => ?_) AllReadyH.nil
          have cc := str_row rz n n (zs_length n)
          go_simp
          refine hK.out _ _ (hS) fun hS => ?_
          try simp only [Act.put, List.getElem_toArray, List.getElem_cons_zero, List.getElem_cons_succ, List.setIfInBounds_toArray, List.set_cons_zero, List.set_cons_succ]
          clear cc
          refine wpAnyH_ready (rs := [8]) (by kernel_rfl) (by simp) ?_
          refine AllReadyH.cons rfl (fun K hK => ?_) AllReadyH.nil
          have ngA := hS.2.size
          have ngAs0 := hS.1.lt
          have ngArB := rB.lt
          have ngArT := rT.lt
          have ngArz := rz.lt
          have rA : Row (wm.alloc (.cells #[.string (strOfNums (zs n)), .string S] 9)) wm.heap.size #[.string (strOfNums (zs n)), .string S] 9 := Row.new _ _ _
          have rB := rB.alloc (.cells #[.string (strOfNums (zs n)), .string S] 9)
          have rT := rT.alloc (.cells #[.string (strOfNums (zs n)), .string S] 9)
          have rz := rz.alloc (.cells #[.string (strOfNums (zs n)), .string S] 9)
          go_simp
          refine hK.out _ _ (⟨hS.1.alloc _, hS.2.alloc hS.2.size _⟩) fun hS => ?_
          try simp only [Act.put, List.getElem_toArray, List.getElem_cons_zero, List.getElem_cons_succ, List.setIfInBounds_toArray, List.set_cons_zero, List.set_cons_succ]
          generalize wm.alloc (.cells #[.string (strOfNums (zs n)), .string S] 9) = w5_8 at rA rB rT rz hS ⊢
          generalize wm.heap.size = gA at rA ngA ngAs0 ngArB ngArT ngArz ⊢
          refine wpAnyH_take (i := 11) (v := .agg #[.slice (some ⟨gA, 0, none⟩) 2 2, .slice (some ⟨gB, 0, none⟩) 1 1]) rfl (by kernel_rfl) (by kernel_rfl) (by kernel_rfl) (fun _ _ _ h => h) (Or.inl ⟨by rfl, fun w _ => by go_simp⟩) hS ?_
          try simp only [Act.put, List.getElem_toArray, List.getElem_cons_zero, List.getElem_cons_succ, List.setIfInBounds_toArray, List.set_cons_zero, List.set_cons_succ]
          refine wpAnyH_ready (rs := [13]) (by kernel_rfl) (by simp) ?_
          refine AllReadyH.cons rfl (fun K hK => ?_) AllReadyH.nil
          refine step_cells rfl 74 (.tmp 7) (.tmp 82) rfl gT #[.slice (some ⟨gA, 0, none⟩) 2 2, .slice (some ⟨gB, 0, none⟩) 1 1] rfl rfl 74 _ rT 2 size74 rfl rfl (by simp [Value.oneCell']) (hK.out _ _ ⟨hS.1.other (by omega) _, below_setRow hS.2 (by omega) _⟩ fun hS => ?_)
          try simp only [Act.put, List.getElem_toArray, List.getElem_cons_zero, List.getElem_cons_succ, List.setIfInBounds_toArray, List.set_cons_zero, List.set_cons_succ]
          have rB := rB.other (g := gT) (by omega) #[.slice (some ⟨gA, 0, none⟩) 2 2, .slice (some ⟨gB, 0, none⟩) 1 1]
          have rz := rz.other (g := gT) (by omega) #[.slice (some ⟨gA, 0, none⟩) 2 2, .slice (some ⟨gB, 0, none⟩) 1 1]
          have rA := rA.other (g := gT) (by omega) #[.slice (some ⟨gA, 0, none⟩) 2 2, .slice (some ⟨gB, 0, none⟩) 1 1]
          have rT := rT.set #[.slice (some ⟨gA, 0, none⟩) 2 2, .slice (some ⟨gB, 0, none⟩) 1 1]
          generalize w5_8.setRow gT #[.slice (some ⟨gA, 0, none⟩) 2 2, .slice (some ⟨gB, 0, none⟩) 1 1] = w6_13 at rB rT rz rA hS ⊢
          refine wpAnyH_done (by kernel_rfl) ?_ _
          go_wp2
          go_meet
          exact ⟨gA, gB, gT, rfl, rA, rB, rT, hS.1, hS.2, by omega, by omega, by omega⟩

        ) AllReadyH.nil))
      ) (AllReadyH.cons rfl (fun K hK => by
        have ngT := hS.2.size
        have ngTs0 := hS.1.lt
        have rT : Row (W0.alloc (.cells #[.slice none 0 0, .slice none 0 0] 74)) W0.heap.size #[.slice none 0 0, .slice none 0 0] 74 := Row.new _ _ _
        go_simp
        refine hK.out _ _ (⟨hS.1.alloc _, hS.2.alloc hS.2.size _⟩) fun hS => ?_
        try simp only [Act.put, List.getElem_toArray, List.getElem_cons_zero, List.getElem_cons_succ, List.setIfInBounds_toArray, List.set_cons_zero, List.set_cons_succ]
        generalize W0.alloc (.cells #[.slice none 0 0, .slice none 0 0] 74) = w1_12 at rT  hS ⊢
        generalize W0.heap.size = gT at rT ngT ngTs0 ⊢
        refine wpAnyH_ready (rs := [4, 10]) (by kernel_rfl) (by simp) ?_
        exact (AllReadyH.cons rfl (fun K hK => by
          have nz := hS.2.size
          have nz0 := hS.1.lt
          have nzrT := rT.lt
          have rz : Row (w1_12.alloc (.cells (madeCells #[.int .u8 0] n) 5)) w1_12.heap.size (bs (zs n)) 5 := by rw [← made_zs]; exact Row.new _ _ _
          have rT := rT.alloc (.cells (madeCells #[.int .u8 0] n) 5)
          have hm9 := hmk w1_12
          go_simp
          refine hK.out _ _ (⟨hS.1.alloc _, hS.2.alloc hS.2.size _⟩) fun hS => ?_
          try simp only [Act.put, List.getElem_toArray, List.getElem_cons_zero, List.getElem_cons_succ, List.setIfInBounds_toArray, List.set_cons_zero, List.set_cons_succ]
          clear hm9
          generalize w1_12.alloc (.cells (madeCells #[.int .u8 0] n) 5) = wm at rz rT hS ⊢
          generalize w1_12.heap.size = gz at rz nz nzrT ⊢
          refine wpAnyH_ready (rs := [5, 10]) (by kernel_rfl) (by simp) ?_
          exact (AllReadyH.cons rfl (fun K hK => by
            have cc := str_row rz n n (zs_length n)
            go_simp
            refine hK.out _ _ (hS) fun hS => ?_
            try simp only [Act.put, List.getElem_toArray, List.getElem_cons_zero, List.getElem_cons_succ, List.setIfInBounds_toArray, List.set_cons_zero, List.set_cons_succ]
            clear cc
            refine wpAnyH_ready (rs := [8, 10]) (by kernel_rfl) (by simp) ?_
            exact (AllReadyH.cons rfl (fun K hK => by
              have ngA := hS.2.size
              have ngAs0 := hS.1.lt
              have ngArT := rT.lt
              have ngArz := rz.lt
              have rA : Row (wm.alloc (.cells #[.string (strOfNums (zs n)), .string S] 9)) wm.heap.size #[.string (strOfNums (zs n)), .string S] 9 := Row.new _ _ _
              have rT := rT.alloc (.cells #[.string (strOfNums (zs n)), .string S] 9)
              have rz := rz.alloc (.cells #[.string (strOfNums (zs n)), .string S] 9)
              go_simp
              refine hK.out _ _ (⟨hS.1.alloc _, hS.2.alloc hS.2.size _⟩) fun hS => ?_
              try simp only [Act.put, List.getElem_toArray, List.getElem_cons_zero, List.getElem_cons_succ, List.setIfInBounds_toArray, List.set_cons_zero, List.set_cons_succ]
              generalize wm.alloc (.cells #[.string (strOfNums (zs n)), .string S] 9) = w4_8 at rA rT rz hS ⊢
              generalize wm.heap.size = gA at rA ngA ngAs0 ngArT ngArz ⊢
              refine wpAnyH_ready (rs := [10]) (by kernel_rfl) (by simp) ?_
              refine AllReadyH.cons rfl (fun K hK => ?_) AllReadyH.nil
              have ngB := hS.2.size
              have ngBs0 := hS.1.lt
              have ngBrT := rT.lt
              have ngBrz := rz.lt
              have ngBrA := rA.lt
              have rB : Row (w4_8.alloc (.cells #[.string oth] 9)) w4_8.heap.size #[.string oth] 9 := Row.new _ _ _
              have rT := rT.alloc (.cells #[.string oth] 9)
              have rz := rz.alloc (.cells #[.string oth] 9)
              have rA := rA.alloc (.cells #[.string oth] 9)
              go_simp
              refine hK.out _ _ (⟨hS.1.alloc _, hS.2.alloc hS.2.size _⟩) fun hS => ?_
              try simp only [Act.put, List.getElem_toArray, List.getElem_cons_zero, List.getElem_cons_succ, List.setIfInBounds_toArray, List.set_cons_zero, List.set_cons_succ]
              generalize w4_8.alloc (.cells #[.string oth] 9) = w5_10 at rB rT rz rA hS ⊢
              generalize w4_8.heap.size = gB at rB ngB ngBs0 ngBrT ngBrz ngBrA ⊢
              refine wpAnyH_take (i := 11) (v := .agg #[.slice (some ⟨gA, 0, none⟩) 2 2, .slice (some ⟨gB, 0, none⟩) 1 1]) rfl (by kernel_rfl) (by kernel_rfl) (by kernel_rfl) (fun _ _ _ h => h) (Or.inl ⟨by rfl, fun w _ => by go_simp⟩) hS ?_
              try simp only [Act.put, List.getElem_toArray, List.getElem_cons_zero, List.getElem_cons_succ, List.setIfInBounds_toArray, List.set_cons_zero, List.set_cons_succ]
              refine wpAnyH_ready (rs := [13]) (by kernel_rfl) (by simp) ?_
              refine AllReadyH.cons rfl (fun K hK => ?_) AllReadyH.nil
              refine step_cells rfl 74 (.tmp 7) (.tmp 82) rfl gT #[.slice (some ⟨gA, 0, none⟩) 2 2, .slice (some ⟨gB, 0, none⟩) 1 1] rfl rfl 74 _ rT 2 size74 rfl rfl (by simp [Value.oneCell']) (hK.out _ _ ⟨hS.1.other (by omega) _, below_setRow hS.2 (by omega) _⟩ fun hS => ?_)
              try simp only [Act.put, List.getElem_toArray, List.getElem_cons_zero, List.getElem_cons_succ, List.setIfInBounds_toArray, List.set_cons_zero, List.set_cons_succ]
              have rz := rz.other (g := gT) (by omega) #[.slice (some ⟨gA, 0, none⟩) 2 2, .slice (some ⟨gB, 0, none⟩) 1 1]
              have rA := rA.other (g := gT) (by omega) #[.slice (some ⟨gA, 0, none⟩) 2 2, .slice (some ⟨gB, 0, none⟩) 1 1]
              have rB := rB.other (g := gT) (by omega) #[.slice (some ⟨gA, 0, none⟩) 2 2, .slice (some ⟨gB, 0, none⟩) 1 1]
              have rT := rT.set #[.slice (some ⟨gA, 0, none⟩) 2 2, .slice (some ⟨gB, 0, none⟩) 1 1]
              generalize w5_10.setRow gT #[.slice (some ⟨gA, 0, none⟩) 2 2, .slice (some ⟨gB, 0, none⟩) 1 1] = w6_13 at rT rz rA rB hS ⊢
              refine wpAnyH_done (by kernel_rfl) ?_ _
              go_wp2
              go_meet
              exact ⟨gA, gB, gT, rfl, rA, rB, rT, hS.1, hS.2, by omega, by omega, by omega⟩

            ) (AllReadyH.cons rfl (fun K hK => by
              have ngB := hS.2.size
              have ngBs0 := hS.1.lt
              have ngBrT := rT.lt
              have ngBrz := rz.lt
              have rB : Row (wm.alloc (.cells #[.string oth] 9)) wm.heap.size #[.string oth] 9 := Row.new _ _ _
              have rT := rT.alloc (.cells #[.string oth] 9)
              have rz := rz.alloc (.cells #[.string oth] 9)
              go_simp
              refine hK.out _ _ (⟨hS.1.alloc _, hS.2.alloc hS.2.size _⟩) fun hS => ?_
              try simp only [Act.put, List.getElem_toArray, List.getElem_cons_zero, List.getElem_cons_succ, List.setIfInBounds_toArray, List.set_cons_zero, List.set_cons_succ]
              generalize wm.alloc (.cells #[.string oth] 9) = w4_10 at rB rT rz hS ⊢
              generalize wm.heap.size = gB at rB ngB ngBs0 ngBrT ngBrz ⊢
              refine wpAnyH_ready (rs := [8]) (by kernel_rfl) (by simp) ?_
              refine AllReadyH.cons rfl (fun K hK => ?_) AllReadyH.nil
              have ngA := hS.2.size
              have ngAs0 := hS.1.lt
              have ngArT := rT.lt
              have ngArz := rz.lt
              have ngArB := rB.lt
              have rA : Row (w4_10.alloc (.cells #[.string (strOfNums (zs n)), .string S] 9)) w4_10.heap.size #[.string (strOfNums (zs n)), .string S] 9 := Row.new _ _ _
              have rT := rT.alloc (.cells #[.string (strOfNums (zs n)), .string S] 9)
              have rz := rz.alloc (.cells #[.string (strOfNums (zs n)), .string S] 9)
              have rB := rB.alloc (.cells #[.string (strOfNums (zs n)), .string S] 9)
              go_simp
              refine hK.out _ _ (⟨hS.1.alloc _, hS.2.alloc hS.2.size _⟩) fun hS => ?_
              try simp only [Act.put, List.getElem_toArray, List.getElem_cons_zero, List.getElem_cons_succ, List.setIfInBounds_toArray, List.set_cons_zero, List.set_cons_succ]
              generalize w4_10.alloc (.cells #[.string (strOfNums (zs n)), .string S] 9) = w5_8 at rA rT rz rB hS ⊢
              generalize w4_10.heap.size = gA at rA ngA ngAs0 ngArT ngArz ngArB ⊢
              refine wpAnyH_take (i := 11) (v := .agg #[.slice (some ⟨gA, 0, none⟩) 2 2, .slice (some ⟨gB, 0, none⟩) 1 1]) rfl (by kernel_rfl) (by kernel_rfl) (by kernel_rfl) (fun _ _ _ h => h) (Or.inl ⟨by rfl, fun w _ => by go_simp⟩) hS ?_
              try simp only [Act.put, List.getElem_toArray, List.getElem_cons_zero, List.getElem_cons_succ, List.setIfInBounds_toArray, List.set_cons_zero, List.set_cons_succ]
              refine wpAnyH_ready (rs := [13]) (by kernel_rfl) (by simp) ?_
              refine AllReadyH.cons rfl (fun K hK => ?_) AllReadyH.nil
              refine step_cells rfl 74 (.tmp 7) (.tmp 82) rfl gT #[.slice (some ⟨gA, 0, none⟩) 2 2, .slice (some ⟨gB, 0, none⟩) 1 1] rfl rfl 74 _ rT 2 size74 rfl rfl (by simp [Value.oneCell']) (hK.out _ _ ⟨hS.1.other (by omega) _, below_setRow hS.2 (by omega) _⟩ fun hS => ?_)
              try simp only [Act.put, List.getElem_toArray, List.getElem_cons_zero, List.getElem_cons_succ, List.setIfInBounds_toArray, List.set_cons_zero, List.set_cons_succ]
              have rz := rz.other (g := gT) (by omega) #[.slice (some ⟨gA, 0, none⟩) 2 2, .slice (some ⟨gB, 0, none⟩) 1 1]
              have rB := rB.other (g := gT) (by omega) #[.slice (some ⟨gA, 0, none⟩) 2 2, .slice (some ⟨gB, 0, none⟩) 1 1]
              have rA := rA.other (g := gT) (by omega) #[.slice (some ⟨gA, 0, none⟩) 2 2, .slice (some ⟨gB, 0, none⟩) 1 1]
              have rT := rT.set #[.slice (some ⟨gA, 0, none⟩) 2 2, .slice (some ⟨gB, 0, none⟩) 1 1]
              generalize w5_8.setRow gT #[.slice (some ⟨gA, 0, none⟩) 2 2, .slice (some ⟨gB, 0, none⟩) 1 1] = w6_13 at rT rz rB rA hS ⊢
              refine wpAnyH_done (by kernel_rfl) ?_ _
              go_wp2
              go_meet
              exact ⟨gA, gB, gT, rfl, rA, rB, rT, hS.1, hS.2, by omega, by omega, by omega⟩

            ) AllReadyH.nil))
          ) (AllReadyH.cons rfl (fun K hK => by
            have ngB := hS.2.size
            have ngBs0 := hS.1.lt
            have ngBrT := rT.lt
            have ngBrz := rz.lt
            have rB : Row (wm.alloc (.cells #[.string oth] 9)) wm.heap.size #[.string oth] 9 := Row.new _ _ _
            have rT := rT.alloc (.cells #[.string oth] 9)
            have rz := rz.alloc (.cells #[.string oth] 9)
            go_simp
            refine hK.out _ _ (⟨hS.1.alloc _, hS.2.alloc hS.2.size _⟩) fun hS => ?_
            try simp only [Act.put, List.getElem_toArray, List.getElem_cons_zero, List.getElem_cons_succ, List.setIfInBounds_toArray, List.set_cons_zero, List.set_cons_succ]
            generalize wm.alloc (.cells #[.string oth] 9) = w3_10 at rB rT rz hS ⊢
            generalize wm.heap.size = gB at rB ngB ngBs0 ngBrT ngBrz ⊢
            refine wpAnyH_ready (rs := [5]) (by kernel_rfl) (by simp) ?_
            refine AllReadyH.cons rfl (fun K hK => ?_) AllReadyH.nil
            have cc := str_row rz n n (zs_length n)
            go_simp
            refine hK.out _ _ (hS) fun hS => ?_
            try simp only [Act.put, List.getElem_toArray, List.getElem_cons_zero, List.getElem_cons_succ, List.setIfInBounds_toArray, List.set_cons_zero, List.set_cons_succ]
            clear cc
            refine wpAnyH_ready (rs := [8]) (by kernel_rfl) (by simp) ?_
            refine AllReadyH.cons rfl (fun K hK => ?_) AllReadyH.nil
            have ngA := hS.2.size
            have ngAs0 := hS.1.lt
            have ngArT := rT.lt
            have ngArz := rz.lt
            have ngArB := rB.lt
            have rA : Row (w3_10.alloc (.cells #[.string (strOfNums (zs n)), .string S] 9)) w3_10.heap.size #[.string (strOfNums (zs n)), .string S] 9 := Row.new _ _ _
            have rT := rT.alloc (.cells #[.string (strOfNums (zs n)), .string S] 9)
            have rz := rz.alloc (.cells #[.string (strOfNums (zs n)), .string S] 9)
            have rB := rB.alloc (.cells #[.string (strOfNums (zs n)), .string S] 9)
            go_simp
            refine hK.out _ _ (⟨hS.1.alloc _, hS.2.alloc hS.2.size _⟩) fun hS => ?_
            try simp only [Act.put, List.getElem_toArray, List.getElem_cons_zero, List.getElem_cons_succ, List.setIfInBounds_toArray, List.set_cons_zero, List.set_cons_succ]
            generalize w3_10.alloc (.cells #[.string (strOfNums (zs n)), .string S] 9) = w5_8 at rA rT rz rB hS ⊢
            generalize w3_10.heap.size = gA at rA ngA ngAs0 ngArT ngArz ngArB ⊢
            refine wpAnyH_take (i := 11) (v := .agg #[.slice (some ⟨gA, 0, none⟩) 2 2, .slice (some ⟨gB, 0, none⟩) 1 1]) rfl (by kernel_rfl) (by kernel_rfl) (by kernel_rfl) (fun _ _ _ h => h) (Or.inl ⟨by rfl, fun w _ => by go_simp⟩) hS ?_
            try simp only [Act.put, List.getElem_toArray, List.getElem_cons_zero, List.getElem_cons_succ, List.setIfInBounds_toArray, List.set_cons_zero, List.set_cons_succ]
            refine wpAnyH_ready (rs := [13]) (by kernel_rfl) (by simp) ?_
            refine AllReadyH.cons rfl (fun K hK => ?_) AllReadyH.nil
            refine step_cells rfl 74 (.tmp 7) (.tmp 82) rfl gT #[.slice (some ⟨gA, 0, none⟩) 2 2, .slice (some ⟨gB, 0, none⟩) 1 1] rfl rfl 74 _ rT 2 size74 rfl rfl (by simp [Value.oneCell']) (hK.out _ _ ⟨hS.1.other (by omega) _, below_setRow hS.2 (by omega) _⟩ fun hS => ?_)
            try simp only [Act.put, List.getElem_toArray, List.getElem_cons_zero, List.getElem_cons_succ, List.setIfInBounds_toArray, List.set_cons_zero, List.set_cons_succ]
            have rz := rz.other (g := gT) (by omega) #[.slice (some ⟨gA, 0, none⟩) 2 2, .slice (some ⟨gB, 0, none⟩) 1 1]
            have rB := rB.other (g := gT) (by omega) #[.slice (some ⟨gA, 0, none⟩) 2 2, .slice (some ⟨gB, 0, none⟩) 1 1]
            have rA := rA.other (g := gT) (by omega) #[.slice (some ⟨gA, 0, none⟩) 2 2, .slice (some ⟨gB, 0, none⟩) 1 1]
            have rT := rT.set #[.slice (some ⟨gA, 0, none⟩) 2 2, .slice (some ⟨gB, 0, none⟩) 1 1]
            generalize w5_8.setRow gT #[.slice (some ⟨gA, 0, none⟩) 2 2, .slice (some ⟨gB, 0, none⟩) 1 1] = w6_13 at rT rz rB rA hS ⊢
            refine wpAnyH_done (by kernel_rfl) ?_ _
            go_wp2
            go_meet
            exact ⟨gA, gB, gT, rfl, rA, rB, rT, hS.1, hS.2, by omega, by omega, by omega⟩

          ) AllReadyH.nil))
        ) (AllReadyH.cons rfl (fun K hK => by
          have ngB := hS.2.size
          have ngBs0 := hS.1.lt
          have ngBrT := rT.lt
          have rB : Row (w1_12.alloc (.cells #[.string oth] 9)) w1_12.heap.size #[.string oth] 9 := Row.new _ _ _
          have rT := rT.alloc (.cells #[.string oth] 9)
          go_simp
          refine hK.out _ _ (⟨hS.1.alloc _, hS.2.alloc hS.2.size _⟩) fun hS => ?_
          try simp only [Act.put, List.getElem_toArray, List.getElem_cons_zero, List.getElem_cons_succ, List.setIfInBounds_toArray, List.set_cons_zero, List.set_cons_succ]
          generalize w1_12.alloc (.cells #[.string oth] 9) = w2_10 at rB rT hS ⊢
          generalize w1_12.heap.size = gB at rB ngB ngBs0 ngBrT ⊢
          refine wpAnyH_ready (rs := [4]) (by kernel_rfl) (by simp) ?_
          refine AllReadyH.cons rfl (fun K hK => ?_) AllReadyH.nil
          have nz := hS.2.size
          have nz0 := hS.1.lt
          have nzrT := rT.lt
          have nzrB := rB.lt
          have rz : Row (w2_10.alloc (.cells (madeCells #[.int .u8 0] n) 5)) w2_10.heap.size (bs (zs n)) 5 := by rw [← made_zs]; exact Row.new _ _ _
          have rT := rT.alloc (.cells (madeCells #[.int .u8 0] n) 5)
          have rB := rB.alloc (.cells (madeCells #[.int .u8 0] n) 5)
          have hm9 := hmk w2_10
          go_simp
          refine hK.out _ _ (⟨hS.1.alloc _, hS.2.alloc hS.2.size _⟩) fun hS => ?_
          try simp only [Act.put, List.getElem_toArray, List.getElem_cons_zero, List.getElem_cons_succ, List.setIfInBounds_toArray, List.set_cons_zero, List.set_cons_succ]
          clear hm9
          generalize w2_10.alloc (.cells (madeCells #[.int .u8 0] n) 5) = wm at rz rT rB hS ⊢
          generalize w2_10.heap.size = gz at rz nz nzrT nzrB ⊢
          refine wpAnyH_ready (rs := [5]) (by kernel_rfl) (by simp) ?_
          refine AllReadyH.cons rfl (fun K hK => ?_) AllReadyH.nil
          have cc := str_row rz n n (zs_length n)
          go_simp
          refine hK.out _ _ (hS) fun hS => ?_
          try simp only [Act.put, List.getElem_toArray, List.getElem_cons_zero, List.getElem_cons_succ, List.setIfInBounds_toArray, List.set_cons_zero, List.set_cons_succ]
          clear cc
          refine wpAnyH_ready (rs := [8]) (by kernel_rfl) (by simp) ?_
          refine AllReadyH.cons rfl (fun K hK => ?_) AllReadyH.nil
          have ngA := hS.2.size
          have ngAs0 := hS.1.lt
          have ngArT := rT.lt
          have ngArB := rB.lt
          have ngArz := rz.lt
          have rA : Row (wm.alloc (.cells #[.string (strOfNums (zs n)), .string S] 9)) wm.heap.size #[.string (strOfNums (zs n)), .string S] 9 := Row.new _ _ _
          have rT := rT.alloc (.cells #[.string (strOfNums (zs n)), .string S] 9)
          have rB := rB.alloc (.cells #[.string (strOfNums (zs n)), .string S] 9)
          have rz := rz.alloc (.cells #[.string (strOfNums (zs n)), .string S] 9)
          go_simp
          refine hK.out _ _ (⟨hS.1.alloc _, hS.2.alloc hS.2.size _⟩) fun hS => ?_
          try simp only [Act.put, List.getElem_toArray, List.getElem_cons_zero, List.getElem_cons_succ, List.setIfInBounds_toArray, List.set_cons_zero, List.set_cons_succ]
          generalize wm.alloc (.cells #[.string (strOfNums (zs n)), .string S] 9) = w5_8 at rA rT rB rz hS ⊢
          generalize wm.heap.size = gA at rA ngA ngAs0 ngArT ngArB ngArz ⊢
          refine wpAnyH_take (i := 11) (v := .agg #[.slice (some ⟨gA, 0, none⟩) 2 2, .slice (some ⟨gB, 0, none⟩) 1 1]) rfl (by kernel_rfl) (by kernel_rfl) (by kernel_rfl) (fun _ _ _ h => h) (Or.inl ⟨by rfl, fun w _ => by go_simp⟩) hS ?_
          try simp only [Act.put, List.getElem_toArray, List.getElem_cons_zero, List.getElem_cons_succ, List.setIfInBounds_toArray, List.set_cons_zero, List.set_cons_succ]
          refine wpAnyH_ready (rs := [13]) (by kernel_rfl) (by simp) ?_
          refine AllReadyH.cons rfl (fun K hK => ?_) AllReadyH.nil
          refine step_cells rfl 74 (.tmp 7) (.tmp 82) rfl gT #[.slice (some ⟨gA, 0, none⟩) 2 2, .slice (some ⟨gB, 0, none⟩) 1 1] rfl rfl 74 _ rT 2 size74 rfl rfl (by simp [Value.oneCell']) (hK.out _ _ ⟨hS.1.other (by omega) _, below_setRow hS.2 (by omega) _⟩ fun hS => ?_)
          try simp only [Act.put, List.getElem_toArray, List.getElem_cons_zero, List.getElem_cons_succ, List.setIfInBounds_toArray, List.set_cons_zero, List.set_cons_succ]
          have rB := rB.other (g := gT) (by omega) #[.slice (some ⟨gA, 0, none⟩) 2 2, .slice (some ⟨gB, 0, none⟩) 1 1]
          have rz := rz.other (g := gT) (by omega) #[.slice (some ⟨gA, 0, none⟩) 2 2, .slice (some ⟨gB, 0, none⟩) 1 1]
          have rA := rA.other (g := gT) (by omega) #[.slice (some ⟨gA, 0, none⟩) 2 2, .slice (some ⟨gB, 0, none⟩) 1 1]
          have rT := rT.set #[.slice (some ⟨gA, 0, none⟩) 2 2, .slice (some ⟨gB, 0, none⟩) 1 1]
          generalize w5_8.setRow gT #[.slice (some ⟨gA, 0, none⟩) 2 2, .slice (some ⟨gB, 0, none⟩) 1 1] = w6_13 at rT rB rz rA hS ⊢
          refine wpAnyH_done (by kernel_rfl) ?_ _
          go_wp2
          go_meet
          exact ⟨gA, gB, gT, rfl, rA, rB, rT, hS.1, hS.2, by omega, by omega, by omega⟩

        ) AllReadyH.nil))
      ) AllReadyH.nil)))
    case rest =>
      obtain ⟨gA, gB, gT, rfl, rA, rB, rT, r1, B9, a1, a2, a3⟩ := hcut
      have HGL : Hid _ := GL.start (n := n) (S := S) (oth := oth) [oth] (by have := Hg.out; omega) hlt1 qb D2 B2 B9 r1 rA rB rT a1 a2 a3
      have HFZ : Hid _ := rows_f (g1 := g1) (gA := gA) (gB := gB) (gT := gT) (n := n) (ld := ld) (at_ := at_) (by_ := by_) (k0 := k0) (k1 := k1) (S := S) (oth := oth) hf0 hf1
      have HKZ : Hid _ := rows_k (g1 := g1) (gA := gA) (gB := gB) (gT := gT) (n := n) (ld := ld) (at_ := at_) (by_ := by_) (f0 := f0) (f1 := f1) (S := S) (oth := oth) hk0 hk1
      have HTX : Hid _ := rows_t (RW := #[.int .u8 ld, .string S, .int .u8 at_, .int .u8 by_, .int .u8 f0, .int .u8 f1, .int .u8 k0, .int .u8 k1]) (g1 := g1) (gA := gA) (gB := gB) (gT := gT) (n := n) (S := S) (oth := oth)
      have HOK : Hid (∀ k, ∀ t ∈ newsI [strOfNums (zs n), S] [oth] k, okF t = true) := fun k t ht => by
        have e1 : okF (strOfNums (zs n)) = true := by unfold okF; rw [strOfNums_size, zs_length]; exact decide_eq_true (by omega)
        have e2 : okF S = true := by unfold okF; exact decide_eq_true hS1
        have e3 : okF oth = true := by unfold okF; rw [hosz]; exact decide_eq_true hS1
        match k with
        | 0 =>
          have ht' : t ∈ [strOfNums (zs n), S] := ht
          simp only [List.mem_cons, List.not_mem_nil, or_false] at ht'
          rcases ht' with rfl | rfl
          · exact e1
          · exact e2
        | k + 1 =>
          have ht' : t ∈ [oth] := ht
          simp only [List.mem_cons, List.not_mem_nil, or_false] at ht'
          subst ht'
          exact e3
      generalize [strOfNums (zs n), S] = n0 at HTX HOK
      generalize [oth] = n1 at HGL HTX HOK
      generalize rowsG #[.int .u8 ld, .string S, .int .u8 at_, .int .u8 by_, .int .u8 f0, .int .u8 f1, .int .u8 k0, .int .u8 k1] g1 gA gB gT n S oth = R at HGL HFZ HKZ HTX
      generalize w1.heap.size + 2 = G at HGL ⊢
      clear rA rB rT r1 B9 a1 a2 a3 D2 B2 q1 qb hw5 hS0 hmod hix hwx hw1 HB1 hwl hwn hmk hosz
      go_wp2
      go_loopw [8, 83] (fun v8 i wr => ∃ (k : Nat), k ≤ 2 ∧ i = .int .i64 k ∧ GL w wr G R n1 k v8) (fun _ i _ => 2 - (intOf i).toNat)
      case atStart => exact ⟨0, by omega, rfl, HGL.out⟩
      case round =>
        clear HGL
        obtain ⟨k, hk, rfl, there, d, M, hGI, hS, hdn, hdp, hdd, htl, hok, hM⟩ := hrel
        by_cases hk2 : k < 2
        · have hk2' : (k : Int) < 2 := by omega
          have hk0' : (0 : Int) ≤ (k : Int) := by omega
          obtain ⟨cs, q, LR⟩ := life_all (n0 := n0) hGI hk2
          obtain ⟨fz, hfz, HF0⟩ := HFZ.out k hk2
          obtain ⟨kz, hkz, HK0⟩ := HKZ.out k hk2
          obtain ⟨pa, nX, hnX, hnX2, HT0, HT1⟩ := HTX.out k hk2
          obtain ⟨oa, cap, hv8⟩ := hS.2.own.form
          have hcat := cat_small there hok
          have hwk : IntKind.i64.wrap ((k : Int) + 1) = (k : Int) + 1 := by rw [IntKind.wrap_i64]; omega
          have hwu : IntKind.u32.wrap ((k : Int) + 1) = (k : Int) + 1 := by rw [IntKind.wrap_u32]; omega
          have hwk2 : IntKind.i64.wrap ((k : Int) + 2) = (k : Int) + 2 := by rw [IntKind.wrap_i64]; omega
          have hwu2 : IntKind.u32.wrap ((k : Int) + 2) = (k : Int) + 2 := by rw [IntKind.wrap_u32]; omega
          have hwel : Well (d.plan [] 0) 16 0 := ⟨hdn, rfl, hdd, fun i => by show decide (i ∈ ([] : List Int)) = false; simp, by show (0 : Int) ≤ 0; omega, by show (0 : Int) ≤ 0; omega⟩
          have HPL : Hid _ := hS.plan 0 (wf_of (by decide) (by decide))
          have HOP : Hid (∀ wx, S0 w wx G (d.plan [] 0) M R u8 there → Calls Try.prog 36 #[.pointer (some ⟨G, 0, none⟩), .int .i64 16, .int .u32 ((k : Int) + 1)] wx fun e w' => Opn0 w wx G (d.plan [] 0) M R u8 there ((k : Int) + 1) cs e w') := fun wx h => h.opened hwel ((k : Int) + 1) LR.lf.rd LR.lf.ok
          have HTD : Hid (∀ wx b iv, It.Own wx b iv (lsns 1 there) → OwnS wx w.heap.size u8 there → Calls Try.prog 37 #[iv, u8, .int .i64 (there.length : Int)] wx fun e w' => e = .returned (.bool true) ∧ Below wx.heap.size wx w') := fun wx b iv h1 h2 => told_any wx b _ iv u8 1 there there.length there.length (by rw [List.take_length]; exact h1) h2 (Nat.le_refl _) (Nat.le_refl _) (by omega)
          obtain ⟨K, HK⟩ : ∃ K, Hid (there.length = K) := ⟨_, rfl⟩
          have hK4 : K ≤ 2 * k := by rw [← HK.out]; exact htl
          subst hv8
          rw [HK.out] at HTD HOP HPL ⊢
          obtain ⟨v8, Hv⟩ : ∃ v8, Hid (v8 = Value.slice oa K cap) := ⟨_, rfl⟩
          clear hS hGI hwel
          go_upto_region 16 with (first
            | (go_at_call 21; refine Calls.mono HPL.out ?_; clear HPL; rintro e w3 ⟨rfl, s3⟩)
            | (go_at_call 36; refine Calls.mono (HOP.out _ (by first | exact s3 | (rw [HK.out] at s3; exact s3))) ?_; clear HOP; rintro e w4 ⟨jj, gl, iv, rfl, ownI, s4⟩))
          have HTD4 : Hid _ := HTD.out w4 _ iv ownI (by first | exact s4.2.own | (have h9 := s4.2.own; rw [HK.out] at h9; exact h9))
          clear HTD
          obtain ⟨d4, Hd4⟩ : ∃ d4, Hid ((d.plan [] 0).tick jj = d4) := ⟨_, rfl⟩
          rw [Hd4.out] at s4
          go_upto_region 18 with (go_at_call 37; refine Calls.mono HTD4.out ?_; clear HTD4; rintro e w5 ⟨rfl, b5⟩)
          have s5 := s4.below b5
          clear s4 ownI
          have cf := HF0 w5 s5.2.rows
          obtain ⟨fr, hfr, hfr2⟩ : ∃ fr : Int, fz.tmod 9 = fr ∧ 0 ≤ fr ∧ fr ≤ 8 := ⟨_, rfl, by rw [Int.tmod_eq_emod_of_nonneg hfz.1]; omega, by rw [Int.tmod_eq_emod_of_nonneg hfz.1]; omega⟩
          have hwf1 : IntKind.i64.wrap fr = fr := by rw [IntKind.wrap_i64]; omega
          have hwf2 : IntKind.i64.wrap (1 + fr) = 1 + fr := by rw [IntKind.wrap_i64]; omega
          have HAP0 : Hid _ := life_log LR (by omega) (by omega)
          obtain ⟨l0, Hl0⟩ : ∃ l0, Hid (Lg.mk 0 16 ((k : Int) + 1) ((St.kp (joinR 0 cs).sts (opE cs)).map (·.off)) [] ByteArray.empty (St.kpN 0 (joinR 0 cs).sts (opE cs)) true (opE cs) (opE cs) = l0) := ⟨_, rfl⟩
          rw [Hl0.out] at HAP0 s5
          have HPF : Hid _ := s5.planF (1 + fr) (wf_of (by omega) (by omega))
          have HD6 : Hid ((d4.plan [] (1 + fr)).seen = d.seen ∧ (d4.plan [] (1 + fr)).n = 16 ∧ (∀ i, (d4.plan [] (1 + fr)).fails i = false) ∧ (d4.plan [] (1 + fr)).pend = [] ∧ (d4.plan [] (1 + fr)).ops = 0) := by
            rw [← Hd4.out]
            exact ⟨rfl, hdn, fun i => by show decide (i ∈ ([] : List Int)) = false; simp, hdp, rfl⟩
          generalize d4.plan [] (1 + fr) = d6 at HPF HD6
          clear s5 b5 s3 Hd4 Hl0
          go_upto_region 19 with (go_at_call 21; refine Calls.mono HPF.out ?_; clear HPF; rintro e w6 ⟨rfl, s6⟩)
          have HCP : Hid _ := s6.copy (by omega)
          clear cf s6
          go_upto_region 20 with (at_builtin; refine wpList_copy rfl (.tmp 120) (.tmp 121) 73 rfl _ _ rfl rfl (fun ty => HCP.out ty) ?_
                                  rintro v7 w7 s7)
          have ct := HT0 w7 s7.2.1.rows
          have htL : ∀ j, X8 R (.slice oa K cap) j → j < w6.heap.size := s7.2.2.2.1
          generalize w6.heap.size = B6 at s7 htL
          clear HCP
          have hq8 := LR.lf.few.2
          have hb6 : w.heap.size ≤ B6 := s7.2.2.2.2.1
          have HI0 : Hid (IL w w7 gl G d6 M R (.slice oa K cap) there B6 q ((k : Int) + 1) (newsI n0 n1 k) 0 v7) := ⟨l0, HAP0.out, by simpa using s7⟩
          clear s7 HAP0
          go_wp2
          go_loopw [13, 127] (fun v i wr => ∃ (m : Nat), m ≤ nX ∧ i = .int .i64 m ∧ IL w wr gl G d6 M R (.slice oa K cap) there B6 q ((k : Int) + 1) (newsI n0 n1 k) m v) (fun _ i _ => nX - (intOf i).toNat)
          case atStart => exact ⟨0, by omega, rfl, HI0.out⟩
          case round =>
            clear HI0 ct
            obtain ⟨m, hm, rfl, l, hAP, hS2⟩ := hrel
            by_cases hmn : m < nX
            · have hmn' : (m : Int) < (nX : Int) := by omega
              have hm0 : (0 : Int) ≤ (m : Int) := by omega
              have hwm : IntKind.i64.wrap ((m : Int) + 1) = (m : Int) + 1 := by rw [IntKind.wrap_i64]; omega
              obtain ⟨s, hs, hcs0⟩ := HT1 m hmn
              have hcs := hcs0 wr hS2.2.1.rows
              have hoks : okF s = true := HOK.out k s (List.mem_of_getElem? hs)
              have hssz : s.size ≤ maxLen := by unfold okF at hoks; have := of_decide_eq_true hoks; unfold maxLen; omega
              have htk : (newsI n0 n1 k).take m ++ [s] = (newsI n0 n1 k).take (m + 1) := by rw [List.take_add_one, hs]; rfl
              obtain ⟨hka, hAP1⟩ := hAP.app (by omega) hq8 (by omega) (fun t ht => HOK.out k t (List.mem_of_mem_take ht)) (by rw [List.length_take]; omega) s hoks
              have e2 := appE_ok hka
              have hfew := hAP.inv.few
              have hfi := hAP.fin_le (by omega) (by rw [List.length_take]; omega) (fun t ht => HOK.out k t (List.mem_of_mem_take ht))
              have hlen : (there ++ (newsI n0 n1 k).take m).length ≤ 1000000 := by rw [List.length_append, List.length_take]; omega
              have HAP : Hid (Calls Try.prog 13 #[.pointer (some ⟨gl, 0, none⟩), .string s] wr fun e w' => e = .returned (.tuple #[.int .u64 (appA l s), .int .i64 0]) ∧ S2 w w' gl G (appL l s) d6 M R (.slice oa K cap) there B6 u13 (there ++ (newsI n0 n1 k).take m)) := by
                have h9 := hS2.call (fun F hL => LStep.app hL s hssz (by omega) (by omega) (by have := hAP.inv.op; omega) ⟨hAP.inv.fin, by omega⟩ hAP.inv.next)
                rw [e2] at h9; exact h9
              rw [htk] at hAP1
              generalize appA l s = AA at HAP
              generalize appL l s = l1 at HAP hAP1
              clear hS2 hAP e2 hka hfew hfi hssz hoks
              go_upto_region 26 with (go_at_call 13; refine Calls.mono HAP.out ?_; clear HAP; rintro e w3 ⟨rfl, s3⟩)
              have rX : Row (w3.alloc (.cells #[.string s] 9)) w3.heap.size #[.string s] 9 := Row.new _ _ _
              have ab : Below w3.heap.size w3 (w3.alloc (.cells #[.string s] 9)) := (Below.refl _ _).alloc (Nat.le_refl _) _
              have HSN : Hid (∀ ty, ∃ v' w', (Builtin.append_ #[73, 73] ty #[u13, .slice (some ⟨w3.heap.size, 0, none⟩) 1 1]).run Try.prog (w3.alloc (.cells #[.string s] 9)) = .ok v' w' ∧ S2 w w' gl G l1 d6 M R (.slice oa K cap) there B6 v' (there ++ (newsI n0 n1 k).take (m + 1))) := fun ty => by
                obtain ⟨v', w', h1, h2⟩ := (s3.below ab).snoc ty w3.heap.size s rX hlen
                rw [List.append_assoc, htk] at h2
                exact ⟨v', w', h1, h2⟩
              clear s3 rX ab hcs htk hs hlen
              go_upto_region 27 with (at_builtin; refine wpList_copy rfl (.tmp 139) (.tmp 141) 73 rfl _ _ rfl rfl (fun ty => HSN.out ty) ?_
                                      rintro v5 w5 s5)
              clear HSN
              go_wp2
              go_roundw
              case rel => exact ⟨m + 1, by omega, by go_num, l1, hAP1, s5⟩
              case measure => simp [intOf]; omega
            · have hmn' : ¬ (m : Int) < (nX : Int) := by omega
              have htake : (newsI n0 n1 k).take m = newsI n0 n1 k := List.take_of_length_le (by omega)
              rw [htake] at hAP hS2
              clear htake
              have hoka : ∀ t ∈ there ++ newsI n0 n1 k, okF t = true := fun t ht => by
                rcases List.mem_append.1 ht with h | h
                · exact hok t h
                · exact HOK.out k t h
              have LR6 : LifeR ((k : Int) + 1) d6.seen there (newsI n0 n1 k) cs q n1 k := by rw [HD6.out.1]; exact LR
              obtain ⟨E, l', d', hfl, hdn', hgo⟩ := life_flush LR6 hAP (by omega) hoka (by omega) (by omega) HD6.out.2.1 HD6.out.2.2.1 HD6.out.2.2.2.1
              have hfi := hAP.fin_le (by omega) (by omega) (fun t ht => HOK.out k t ht)
              have HFL : Hid (Calls Try.prog 15 #[.pointer (some ⟨gl, 0, none⟩)] wr fun e w' => e = .returned (.int .i64 E) ∧ S2 w w' gl G l' d' (M + 4000) R (.slice oa K cap) there B6 u13 (there ++ newsI n0 n1 k)) := hS2.call (fun F hL => by
                have h9 := LStep.flush hL hAP.inv (by omega) (by rw [HD6.out.2.2.2.2]; omega) (by omega)
                rw [hfl] at h9; exact h9)
              obtain ⟨g2, cap2, hv13, hcap1, hcap2⟩ := hS2.2.2.1.formS (by rw [List.length_append]; omega)
              obtain ⟨N2, HN2⟩ : ∃ N2, Hid ((there ++ newsI n0 n1 k).length = N2) := ⟨_, rfl⟩
              have hN2 : K + nX = N2 := by rw [← HN2.out, ← HK.out, List.length_append, hnX]
              rw [HN2.out] at hv13 hcap1
              clear hS2 hAP LR6 hfl hfi
              subst hv13
              obtain ⟨SU, HSU, hSU2⟩ : ∃ SU : Nat, Hid (SU = if E = 0 then N2 else K) ∧ SU ≤ N2 := ⟨if E = 0 then N2 else K, rfl, by split <;> omega⟩
              go_upto_if 148 with (go_at_call 15; refine Calls.mono HFL.out ?_; clear HFL; rintro e w8 ⟨rfl, s8⟩)
              go_cut [18] from 148 to 150 (fun v wx => v = .int .i64 (SU : Int) ∧ wx = w8)
              case first =>
                by_cases hE : E = 0
                · have e3 : SU = N2 := by rw [HSU.out, if_pos hE]
                  go_wp2
                  go_meet
                  exact ⟨by rw [e3], rfl⟩
                · have e3 : SU = K := by rw [HSU.out, if_neg hE]
                  go_wp2
                  go_meet
                  exact ⟨by rw [e3], rfl⟩
              case rest =>
                obtain ⟨rfl, hww⟩ := hcut
                have hww2 := hww.symm
                clear hww
                subst hww2
                have hmk2 : ∀ w : World, (Instr.makeSlice 79 (.int .i64 64) (.int .i64 64)).run Try.prog w = .ok (.slice (some ⟨w.heap.size, 0, none⟩) 64 64) (w.alloc (.cells (madeCells #[.bool false] 64) 4)) := run_make_row' (P := Try.prog) 79 4 (.bool false) 1 Try.underlying79 info4 rfl .i64 .i64 64 (by omega) (by omega)
                have s9 := s8.flags (madeCells #[.bool false] 64) made64
                obtain ⟨BB, HBB⟩ : ∃ BB : Nat → Bool, Hid (BB = fun n => bitB kz n) := ⟨_, rfl⟩
                rw [flagsU_zero BB] at s9
                clear s8
                go_upto_region 32 with fail
                generalize w8.alloc (.cells (madeCells #[.bool false] 64) 4) = w10 at s9 ⊢
                generalize w8.heap.size = gk at s9 ⊢
                clear hmk2
                go_wp2
                go_loopw [154] (fun i wr => ∃ (j : Nat), j ≤ 64 ∧ i = .int .i64 j ∧ S4 w wr gl G l' d' (M + 4000) R (.slice oa K cap) there B6 (.slice (some ⟨g2, 0, none⟩) N2 cap2) (there ++ newsI n0 n1 k) gk (flagsU BB j)) (fun i _ => 64 - (intOf i).toNat)
                case atStart => exact ⟨0, by omega, rfl, s9⟩
                case round =>
                  clear s9
                  obtain ⟨j, hj, rfl, s4⟩ := hrel
                  by_cases hj64 : j < 64
                  · have hj' : (j : Int) < 64 := by omega
                    have hj0 : (0 : Int) ≤ (j : Int) := by omega
                    have hwj : IntKind.i64.wrap ((j : Int) + 1) = (j : Int) + 1 := by rw [IntKind.wrap_i64]; omega
                    have ck := HK0 wr s4.2.1.rows
                    have hc0 := World.ownsRow.cellAt s4.2.2.2.2.2.2.2 j (by omega)
                    have hc1 := World.ownsRow.frozenAt s4.2.2.2.2.2.2.2 j
                    have hc2 : ∃ u, (flagsU BB j)[j]? = some (.bool u) := by unfold flagsU; rw [List.getElem?_map, List.getElem?_range hj64]; exact ⟨_, rfl⟩
                    obtain ⟨u0, hu0⟩ := hc2
                    rw [hu0] at hc0
                    have hd4 : (j : Int).tdiv 4 = ((j / 4 : Nat) : Int) := by rw [Int.tdiv_eq_ediv_of_nonneg (by omega)]; omega
                    have hd8 : (((j / 4 : Nat) : Int)).tmod 8 = ((j / 4 % 8 : Nat) : Int) := by rw [Int.tmod_eq_emod_of_nonneg (by omega)]; omega
                    have hn8 := Nat.mod_lt (j / 4) (show 0 < 8 by omega)
                    have hst : S4 w (wr.setCell ⟨gk, j, none⟩ (.bool (bits BinOp.and IntKind.u8 (kz / 2 ^ (j / 4 % 8)) 1 == 1))) gl G l' d' (M + 4000) R (.slice oa K cap) there B6 (.slice (some ⟨g2, 0, none⟩) N2 cap2) (there ++ newsI n0 n1 k) gk (flagsU BB (j + 1)) := by
                      have h := s4.store j (.bool (BB (j / 4 % 8)))
                      rw [flagsU_set BB j hj64] at h
                      have e : BB (j / 4 % 8) = (bits BinOp.and IntKind.u8 (kz / 2 ^ (j / 4 % 8)) 1 == 1) := by rw [HBB.out]; rfl
                      rw [e] at h; exact h
                    clear hu0 s4
                    go_upto_region 36 with fail
                    generalize wr.setCell ⟨gk, j, none⟩ (.bool (bits BinOp.and IntKind.u8 (kz / 2 ^ (j / 4 % 8)) 1 == 1)) = w11 at hst ⊢
                    clear hc0 hc1 ck
                    go_wp2
                    go_roundw
                    case rel => exact ⟨j + 1, by omega, by go_num, hst⟩
                    case measure => simp [intOf]; omega
                  · have hj' : ¬ (j : Int) < 64 := by omega
                    obtain rfl : j = 64 := by omega
                    rw [flagsU_all] at s4
                    obtain ⟨cs', jn, hR, hj1, hj2, hj3, hGI2⟩ := hgo (flagsB BB) (fun g => BB (g % 8)) (fun g s hg hs => flagsB_get BB g s hg hs)
                    have HWC : Well (d'.crash (flagsB BB)) 16 0 := ⟨hdn', rfl, rfl, fun i => by show decide (i ∈ ([] : List Int)) = false; simp, by show (0 : Int) ≤ 0; omega, by show (0 : Int) ≤ 0; omega⟩
                    rw [show (k : Int) + 1 + 1 = (k : Int) + 2 by omega] at hR
                    have HCR : Hid _ := s4.crash (flagsB_len BB)
                    have hpe : (d'.crash (flagsB BB)).pend = [] := rfl
                    generalize d'.crash (flagsB BB) = d9 at HCR HWC hR hGI2 hpe
                    have HOP2 : Hid (∀ wx, S3 w wx G d9 (M + 4000) R (.slice oa K cap) there B6 (.slice (some ⟨g2, 0, none⟩) N2 cap2) (there ++ newsI n0 n1 k) → Calls Try.prog 36 #[.pointer (some ⟨G, 0, none⟩), .int .i64 16, .int .u32 ((k : Int) + 2)] wx fun e w' => Opn3 w wx G d9 (M + 4000) R (.slice oa K cap) there B6 (.slice (some ⟨g2, 0, none⟩) N2 cap2) (there ++ newsI n0 n1 k) ((there ++ newsI n0 n1 k).take jn) e w') := fun wx h => h.opened HWC ((k : Int) + 2) hR
                    have hSUj : SU ≤ jn := by
                      rw [HSU.out]
                      by_cases hE : E = 0
                      · rw [if_pos hE]; have := hj3 hE; rw [HN2.out] at this; omega
                      · rw [if_neg hE, ← HK.out]; exact hj1
                    have HTD2 : Hid (∀ wx b iv, It.Own wx b iv (lsns 1 ((there ++ newsI n0 n1 k).take jn)) → OwnS wx B6 (.slice (some ⟨g2, 0, none⟩) N2 cap2) (there ++ newsI n0 n1 k) → Calls Try.prog 37 #[iv, .slice (some ⟨g2, 0, none⟩) N2 cap2, .int .i64 (SU : Int)] wx fun e w' => e = .returned (.bool true) ∧ Below wx.heap.size wx w') := fun wx b iv h1 h2 => told_any wx b _ iv _ 1 (there ++ newsI n0 n1 k) jn SU h1 h2 hj2 hSUj (by rw [HN2.out]; omega)
                    have hjN : jn ≤ N2 := by rw [← HN2.out]; exact hj2
                    have hlj : (lsns 1 ((there ++ newsI n0 n1 k).take jn)).length = jn := by rw [lsns_length, List.length_take]; omega
                    clear s4 hR hSUj
                    go_upto_region 39 with (first
                      | (go_at_call 38; refine Calls.mono HCR.out ?_; clear HCR; rintro e w11 ⟨rfl, s11⟩)
                      | (go_at_call 36; refine Calls.mono (HOP2.out _ s11) ?_; clear HOP2; rintro e w12 ⟨jj2, pp, iv2, rfl, ownJ, s12⟩))
                    have HT3 : Hid _ := HTD2.out w12 _ iv2 ownJ s12.2.2.1
                    obtain ⟨io, ic, hiv⟩ := ownJ.form
                    rw [hlj] at hiv
                    subst hiv
                    clear HTD2 s11 ownJ hlj
                    have hjc : (jn : Int) ≤ (cap2 : Int) := by omega
                    have hjc0 : (0 : Int) ≤ (jn : Int) := by omega
                    go_upto_region 41 with (go_at_call 37; refine Calls.mono HT3.out ?_; clear HT3; rintro e w13 ⟨rfl, b13⟩)
                    have s13 := s12.below b13
                    clear s12 b13
                    have s14 := s13.cut jn hj2
                    clear s13
                    have HEND : Hid (GL w w13 G R n1 (k + 1) (.slice (some ⟨g2, 0, none⟩) jn cap2)) := ⟨_, d9.tick jj2, M + 4000, hGI2, s14, HWC.size, hpe, HWC.on, by rw [List.length_take, HN2.out]; omega, fun t ht => hoka t (List.mem_of_mem_take ht), by omega⟩
                    clear s14 hGI2
                    go_upto_region 42 with fail
                    go_wp2
                    go_roundw
                    case rel => exact ⟨k + 1, by omega, by go_num, HEND.out⟩
                    case measure => simp [intOf]; omega
        · have hk2' : ¬ (k : Int) < 2 := by omega
          have hb := hS.below
          clear hS hGI
          go_wp2_with (go_at_call 10; refine Calls.mono (HA.out _) ?_; clear HA; rintro ex wz ⟨rfl, hz⟩)
          go_ret
          exact ⟨rfl, hb.trans (hz.mono hb.size)⟩
set_option maxHeartbeats 4000000 in
theorem walkOut (w : World) (ld at_ by_ f0 f1 k0 k1 : Int) (S : ByteArray) (hS1 : ¬ (1 ≤ S.size ∧ S.size ≤ 400)) :
    Calls Try.prog 5 #[.agg #[.int .u8 ld, .string S, .int .u8 at_, .int .u8 by_, .int .u8 f0, .int .u8 f1, .int .u8 k0, .int .u8 k1]] w fun e w' => e = .returned (.bool true) ∧ Below w.heap.size w w' := by
  have HA : Hid _ := awake_any
  have HND : Hid (∀ wx, Calls Try.prog 9 #[.int .i64 16] wx fun e w' => e = .returned (.pointer (some ⟨wx.heap.size + 2, 0, none⟩)) ∧ DAt w' (wx.heap.size + 2) (Dsk.new 16) (Loc.new wx.heap.size) 0 ∧ Below wx.heap.size wx w') := fun wx => new_some 16 (by decide) (by decide) wx
  have q1 : Row (w.alloc (.cells #[.int .u8 ld, .string S, .int .u8 at_, .int .u8 by_, .int .u8 f0, .int .u8 f1, .int .u8 k0, .int .u8 k1] 71)) w.heap.size #[.int .u8 ld, .string S, .int .u8 at_, .int .u8 by_, .int .u8 f0, .int .u8 f1, .int .u8 k0, .int .u8 k1] 71 := Row.new _ _ _
  have qb : Below w.heap.size w (w.alloc (.cells #[.int .u8 ld, .string S, .int .u8 at_, .int .u8 by_, .int .u8 f0, .int .u8 f1, .int .u8 k0, .int .u8 k1] 71)) := (Below.refl _ _).alloc (Nat.le_refl _) _
  by_cases h1 : S.size < 1
  · have h1' : (S.size : Int) < 1 := by omega
    clear hS1
    go_enter Try.func5, Try.ntmps5
    go_upto_region 1 with fail
    generalize w.alloc (.cells #[.int .u8 ld, .string S, .int .u8 at_, .int .u8 by_, .int .u8 f0, .int .u8 f1, .int .u8 k0, .int .u8 k1] 71) = w1 at q1 qb ⊢
    go_upto_region 2 with (go_at_call 9; refine Calls.mono (HND.out _) ?_; clear HND; rintro e w2 ⟨rfl, D2, B2⟩)
    have r1 := q1.below B2 q1.lt
    have c1 := row_at r1 1 _ rfl
    have b2 := qb.trans (B2.mono qb.size)
    clear D2 q1 r1
    go_wp2_with (go_at_call 10; refine Calls.mono (HA.out _) ?_; clear HA; rintro ex wz ⟨rfl, hz⟩)
    go_ret
    exact ⟨rfl, b2.trans (hz.mono b2.size)⟩
  · have h1' : ¬ (S.size : Int) < 1 := by omega
    have h2' : (400 : Int) < (S.size : Int) := by omega
    clear hS1
    go_enter Try.func5, Try.ntmps5
    go_upto_region 1 with fail
    generalize w.alloc (.cells #[.int .u8 ld, .string S, .int .u8 at_, .int .u8 by_, .int .u8 f0, .int .u8 f1, .int .u8 k0, .int .u8 k1] 71) = w1 at q1 qb ⊢
    go_upto_region 2 with (go_at_call 9; refine Calls.mono (HND.out _) ?_; clear HND; rintro e w2 ⟨rfl, D2, B2⟩)
    have r1 := q1.below B2 q1.lt
    have c1 := row_at r1 1 _ rfl
    have b2 := qb.trans (B2.mono qb.size)
    clear D2 q1 r1
    go_wp2_with (go_at_call 10; refine Calls.mono (HA.out _) ?_; clear HA; rintro ex wz ⟨rfl, hz⟩)
    go_ret
    exact ⟨rfl, b2.trans (hz.mono b2.size)⟩
theorem walk (w : World) (ld at_ by_ f0 f1 k0 k1 : Int) (S : ByteArray) (h : (0 ≤ ld ∧ ld ≤ 255) ∧ (0 ≤ at_ ∧ at_ ≤ 255) ∧ (0 ≤ by_ ∧ by_ ≤ 255) ∧ (0 ≤ f0 ∧ f0 ≤ 255) ∧ (0 ≤ f1 ∧ f1 ≤ 255) ∧ (0 ≤ k0 ∧ k0 ≤ 255) ∧ (0 ≤ k1 ∧ k1 ≤ 255) ∧ S.size ≤ maxLen) :
    Calls Try.prog 5 #[.agg (ghostA ld at_ by_ f0 f1 k0 k1 S)] w fun e w' => e = .returned (.bool true) ∧ Below w.heap.size w w' := by
  obtain ⟨h1, h2, h3, h4, h5, h6, h7, _⟩ := h
  by_cases hS : 1 ≤ S.size ∧ S.size ≤ 400
  · exact walkIn w ld at_ by_ f0 f1 k0 k1 S hS h1 h2 h3 h4 h5 h6 h7
  · exact walkOut w ld at_ by_ f0 f1 k0 k1 S hS

set_option maxRecDepth 100000 in
theorem lifted (os : Os) (started : os.Started) (H : Type) (enc : TypeId × Value → H) :
    ReturnsInHanded {} Try.checked os 5 .any (Rows.logGhostsSpec.pre6 enc Try.prog Try.f5 Rows.logGhostsRow.domain false) (Rows.logGhostsSpec.post enc Try.prog Try.f5 false true false false) := by
  refine returnsInHanded_of_change_sized (C := Try.checked) own started (by kernel_rfl) Try.func5
    (ChangeSpec.witness6 (enc := enc) (C := Try.checked) false ⟨#[], #[.agg (ghostA 0 0 0 0 0 0 0 ByteArray.empty)], []⟩ 8 (by kernel_rfl) (by kernel_rfl) (by kernel_rfl) (by kernel_rfl)) ?_
  intro W base args ds gs before hval0 hW hcnd hsz0 _
  have hval : ∀ (j : Nat) t v, Try.f5.params[j]? = some t → args[j]? = some v → Value.okWide Try.prog W .any base t v := hval0
  have hW' := hW
  obtain ⟨p, q, hA0, hV, rfl, hfz, hnd⟩ := hW
  have hA : DataW.TrodAll enc Try.prog W 0 (fun _ => true) true Try.f5.params.toList args.toList ds p := hA0
  have hsz : (DataW.weightsEach Try.prog (Try.f5.params.toList ++ []) (ds ++ gs)).all (· ≤ reachBytes) = true := hsz0
  rw [Try.params5] at hA hval hsz
  obtain ⟨v0, vs0, d0, ds0, p0, q0, hargs, rfl, rfl, h0, r0⟩ := trodAll_cons hA
  obtain ⟨rfl, rfl, rfl⟩ := trodAll_nil r0
  obtain rfl : args = #[v0] := by cases args; simp_all
  obtain ⟨rfl, rfl⟩ := trodVars_none hV
  simp only [List.append_nil] at hsz
  have hlt : ∀ x ∈ (p0 ++ []), x.block < W.heap.size := fun x hx => hW'.lt x (by simpa using hx)
  have hw0 : (d0.weights Try.prog 71).all (· ≤ reachBytes) = true := List.all_eq_true.2 fun m hm => List.all_eq_true.1 hsz m (by simp [DataW.weightsEach, hm])
  have k0 := h0
  obtain ⟨a0, b0, c0, e0, f0, g0, l0, m0, rfl, w0⟩ := open_ghostv (hval 0 71 v0 rfl rfl) h0
  clear hA0 hval0
  simp only [List.append_nil] at hW'
  refine (walk W a0 b0 c0 e0 f0 g0 l0 m0 w0).mono fun e W' ⟨he, hg⟩ => ?_
  subst he
  exact ⟨_, rfl, ⟨_, _, _, [], (p0 ++ []), [], hW', (trodAll_cons_mk (shut_bool Try.underlying4 _) trodAll_mk0), (trodAll_cons_mk (Below.trod laidOut (by kernel_rfl) (of_decide_eq_true (by kernel_rfl)) k0 hg (fun x hx => hlt x (by simp [hx]))) trodAll_mk0), rfl,
    hg.frame _, fun h => by cases h⟩⟩

theorem over : Rows.logGhostsRow.holds Try.pinned (OpenSpec.ofChange Rows.logGhostsSpec) :=
  OpenClaim.holds_of_wide 5 Try.f5 rfl rfl rfl rfl rfl rfl rfl ⟨rfl, rfl, rfl, rfl, rfl⟩ rfl rfl rfl rfl rfl (by kernel_rfl) Try.func5 (by kernel_rfl)
    (of_decide_eq_true (by kernel_rfl)) (by unfold Func.isWrapper; first | (rw [if_pos (by decide +kernel)]; kernel_rfl) | (rw [if_neg (by decide +kernel)]; exact ⟨rfl, rfl⟩))
    (fun os started H enc _ => lifted os started H enc)

/-- The statement. -/
theorem proved : Rows.LogGhostsSaid :=
  over
#print axioms proved
end Go.Proofs.Ytgnedbagelhcbaa.logGhosts
