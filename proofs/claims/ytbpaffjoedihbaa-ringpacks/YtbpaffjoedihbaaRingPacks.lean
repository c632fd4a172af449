/-
  Proved here: any part of the stream is the document's block, or may not be; any block is told as one of the log's, or as none, just as the document says (RingPacks), for all chunks and blocks.
-/
import Derived.Test.YtbpaffjoedihbaaOpn
namespace Go.Proofs.Ytbpaffjoedihbaa.ringPacks
open Go.ChangeShapes Go.WideShapes Go.ChangeAt Go.RowKit
open Go.Deep
set_option linter.unusedVariables false
set_option linter.unusedSimpArgs false

theorem own : ownKnob Try.prog.godebug = none := by kernel_rfl

theorem gotC_is (b : List Int) : ∃ (e n o : Int) (s : ByteArray), gotC b = #[.int .u32 e, .int .u32 n, .int .u64 o, .string s] := by
  unfold gotC; split
  · exact ⟨_, _, _, _, rfl⟩
  · exact ⟨_, _, _, _, rfl⟩
set_option maxRecDepth 20000 in
set_option maxHeartbeats 4000000 in
theorem walk (w : World) (e n o : Int) (s : ByteArray) (b : List Int) (hc : Chu e n o s) (hb : b.length = 256) (hy : Bytes b) :
    Calls Try.prog 3 #[.agg #[.int .u32 e, .int .u32 n, .int .u64 o, .string s], .agg (bs b)] w fun ex w' => ex = .returned (.bool true) ∧ Below w.heap.size w w' := by
  have hz1 := zero27
  have hz2 := zero25
  have HP1 : Hid _ := fun w => pack_any e n o s w hc.epoch hc.number hc.offset hc.size
  have HP2 : Hid _ := fun w => rpack_any e n o s w hc.epoch hc.number hc.offset hc.size
  have HU1 : Hid _ := fun w => unpack_any b w hb hy
  have HU2 : Hid _ := fun w => runpack_any b w hb hy
  have HAW : Hid _ := fun w => awake_any w
  have hVl := packV_length e n o s
  have heq := equal27 (packV e n o s) (packV e n o s) hVl hVl
  simp only [decide_true] at heq
  obtain ⟨ge, gn, go, gs, hg⟩ := gotC_is b
  rw [hg] at HU1 HU2
  have heq2 := fun w => equal25 ge gn go ge gn go gs gs w
  simp only [decide_true, Bool.and_true] at heq2
  have HPE : Hid (packE s = if okC s then 0 else 1) := rfl
  generalize packV e n o s = V at HP1 HP2 hVl heq
  generalize packE s = PE at HP1 HPE
  generalize okC s = K at HP2 HPE
  generalize isB b = I at HU1 HU2
  have hVb : (bs V).size = 256 := by rw [bs_size, hVl]
  have hbb : (bs b).size = 256 := by rw [bs_size, hb]
  have HVL : Hid (V.length = 256) := hVl
  clear hVl hb hy hg hc
  have r0 : Row ((w.alloc (.cells #[.int .u32 e, .int .u32 n, .int .u64 o, .string s] 25)).alloc (.cells (bs b) 27)) w.heap.size #[.int .u32 e, .int .u32 n, .int .u64 o, .string s] 25 := (Row.new _ _ _).alloc _
  have r1 : Row ((w.alloc (.cells #[.int .u32 e, .int .u32 n, .int .u64 o, .string s] 25)).alloc (.cells (bs b) 27)) (w.heap.size + 1) (bs b) 27 := by have := Row.new (w.alloc (.cells #[.int .u32 e, .int .u32 n, .int .u64 o, .string s] 25)) (bs b) 27; simpa using this
  have ab : Below w.heap.size w ((w.alloc (.cells #[.int .u32 e, .int .u32 n, .int .u64 o, .string s] 25)).alloc (.cells (bs b) 27)) := ((Below.refl _ _).alloc (Nat.le_refl _) _).alloc (by simp) _
  go_enter Try.func3, Try.ntmps3
  go_upto_region 1 with fail
  generalize (w.alloc (.cells #[.int .u32 e, .int .u32 n, .int .u64 o, .string s] 25)).alloc (.cells (bs b) 27) = w1 at r0 r1 ab ⊢
  go_upto_region 2 with (first
    | (refine load_cells rfl 25 (.tmp 2) rfl w.heap.size rfl 25 #[.int .u32 e, .int .u32 n, .int .u64 o, .string s] r0 4 Try.underlying25 rfl size25 rfl ?_)
    | (go_at_call 9; refine (HP1.out _).mono ?_; clear HP1; rintro ex w2 ⟨rfl, h2⟩
       have q2 : Row (w2.alloc (.cells (bs (zs 256)) 27)) w2.heap.size (bs (zs 256)) 27 := Row.new _ _ _)
    | (refine store_row rfl 27 (.tmp 5) (.tmp 16) rfl w2.heap.size V rfl rfl 27 _ q2 256 size27 (by rw [bs_size, zs_length]) HVL.out ?_))
  have r0 := r0.below h2 r0.lt
  have r1 := r1.below h2 r1.lt
  have lw2 := r1.lt
  have ab := ab.trans (h2.mono ab.size)
  have r0 := (r0.alloc (.cells (bs (zs 256)) 27)).other (g := w2.heap.size) (by omega) (bs V)
  have r1 := (r1.alloc (.cells (bs (zs 256)) 27)).other (g := w2.heap.size) (by omega) (bs V)
  have q2 := q2.set (bs V)
  have ab := below_setRow (ab.alloc ab.size (.cells (bs (zs 256)) 27)) ab.size (bs V)
  clear h2
  generalize (w2.alloc (.cells (bs (zs 256)) 27)).setRow w2.heap.size (bs V) = w2x at r0 r1 q2 ab ⊢
  generalize w2.heap.size = gw2 at q2 lw2 ⊢
  go_upto_region 3 with (first
    | (refine load_cells rfl 25 (.tmp 2) rfl w.heap.size rfl 25 #[.int .u32 e, .int .u32 n, .int .u64 o, .string s] r0 4 Try.underlying25 rfl size25 rfl ?_)
    | (go_at_call 10; refine (HP2.out _).mono ?_; clear HP2; rintro ex w3 ⟨rfl, h3⟩
       have q3 : Row (w3.alloc (.cells (bs (zs 256)) 27)) w3.heap.size (bs (zs 256)) 27 := Row.new _ _ _)
    | (refine store_row rfl 27 (.tmp 7) (.tmp 21) rfl w3.heap.size V rfl rfl 27 _ q3 256 size27 (by rw [bs_size, zs_length]) HVL.out ?_))
  have r0 := r0.below h3 r0.lt
  have r1 := r1.below h3 r1.lt
  have q2 := q2.below h3 q2.lt
  have lw3 := q2.lt
  have ab := ab.trans (h3.mono ab.size)
  have r0 := (r0.alloc (.cells (bs (zs 256)) 27)).other (g := w3.heap.size) (by omega) (bs V)
  have r1 := (r1.alloc (.cells (bs (zs 256)) 27)).other (g := w3.heap.size) (by omega) (bs V)
  have q2 := (q2.alloc (.cells (bs (zs 256)) 27)).other (g := w3.heap.size) (by omega) (bs V)
  have q3 := q3.set (bs V)
  have ab := below_setRow (ab.alloc ab.size (.cells (bs (zs 256)) 27)) ab.size (bs V)
  clear h3
  generalize (w3.alloc (.cells (bs (zs 256)) 27)).setRow w3.heap.size (bs V) = w3x at r0 r1 q2 q3 ab ⊢
  generalize w3.heap.size = gw3 at q3 lw3 ⊢
  go_upto_region 4 with (first
    | (refine load_row rfl 27 (.tmp 3) rfl (w.heap.size + 1) rfl 27 (bs b) r1 256 5 Try.underlying27 size27 hbb ?_)
    | (go_at_call 11; refine (HU1.out _).mono ?_; clear HU1; rintro ex w4 ⟨rfl, h4⟩
       have q4 : Row (w4.alloc (.cells #[.int .u32 0, .int .u32 0, .int .u64 0, .string ByteArray.empty] 25)) w4.heap.size #[.int .u32 0, .int .u32 0, .int .u64 0, .string ByteArray.empty] 25 := Row.new _ _ _)
    | (refine store_cells rfl 25 (.tmp 9) (.tmp 26) rfl w4.heap.size #[.int .u32 ge, .int .u32 gn, .int .u64 go, .string gs] rfl rfl 25 _ q4 4 size25 rfl rfl (by simp [Value.oneCell']) ?_))
  have r0 := r0.below h4 r0.lt
  have r1 := r1.below h4 r1.lt
  have q2 := q2.below h4 q2.lt
  have q3 := q3.below h4 q3.lt
  have lw4 := q3.lt
  have ab := ab.trans (h4.mono ab.size)
  have r0 := (r0.alloc (.cells #[.int .u32 0, .int .u32 0, .int .u64 0, .string ByteArray.empty] 25)).other (g := w4.heap.size) (by omega) #[.int .u32 ge, .int .u32 gn, .int .u64 go, .string gs]
  have r1 := (r1.alloc (.cells #[.int .u32 0, .int .u32 0, .int .u64 0, .string ByteArray.empty] 25)).other (g := w4.heap.size) (by omega) #[.int .u32 ge, .int .u32 gn, .int .u64 go, .string gs]
  have q2 := (q2.alloc (.cells #[.int .u32 0, .int .u32 0, .int .u64 0, .string ByteArray.empty] 25)).other (g := w4.heap.size) (by omega) #[.int .u32 ge, .int .u32 gn, .int .u64 go, .string gs]
  have q3 := (q3.alloc (.cells #[.int .u32 0, .int .u32 0, .int .u64 0, .string ByteArray.empty] 25)).other (g := w4.heap.size) (by omega) #[.int .u32 ge, .int .u32 gn, .int .u64 go, .string gs]
  have q4 := q4.set #[.int .u32 ge, .int .u32 gn, .int .u64 go, .string gs]
  have ab := below_setRow (ab.alloc ab.size (.cells #[.int .u32 0, .int .u32 0, .int .u64 0, .string ByteArray.empty] 25)) ab.size #[.int .u32 ge, .int .u32 gn, .int .u64 go, .string gs]
  clear h4
  generalize (w4.alloc (.cells #[.int .u32 0, .int .u32 0, .int .u64 0, .string ByteArray.empty] 25)).setRow w4.heap.size #[.int .u32 ge, .int .u32 gn, .int .u64 go, .string gs] = w4x at r0 r1 q2 q3 q4 ab ⊢
  generalize w4.heap.size = gw4 at q4 lw4 ⊢
  go_upto_region 5 with (first
    | (refine load_row rfl 27 (.tmp 3) rfl (w.heap.size + 1) rfl 27 (bs b) r1 256 5 Try.underlying27 size27 hbb ?_)
    | (go_at_call 12; refine (HU2.out _).mono ?_; clear HU2; rintro ex w5 ⟨rfl, h5⟩
       have q5 : Row (w5.alloc (.cells #[.int .u32 0, .int .u32 0, .int .u64 0, .string ByteArray.empty] 25)) w5.heap.size #[.int .u32 0, .int .u32 0, .int .u64 0, .string ByteArray.empty] 25 := Row.new _ _ _)
    | (refine store_cells rfl 25 (.tmp 11) (.tmp 31) rfl w5.heap.size #[.int .u32 ge, .int .u32 gn, .int .u64 go, .string gs] rfl rfl 25 _ q5 4 size25 rfl rfl (by simp [Value.oneCell']) ?_))
  have r0 := r0.below h5 r0.lt
  have r1 := r1.below h5 r1.lt
  have q2 := q2.below h5 q2.lt
  have q3 := q3.below h5 q3.lt
  have q4 := q4.below h5 q4.lt
  have lw5 := q4.lt
  have ab := ab.trans (h5.mono ab.size)
  have r0 := (r0.alloc (.cells #[.int .u32 0, .int .u32 0, .int .u64 0, .string ByteArray.empty] 25)).other (g := w5.heap.size) (by omega) #[.int .u32 ge, .int .u32 gn, .int .u64 go, .string gs]
  have r1 := (r1.alloc (.cells #[.int .u32 0, .int .u32 0, .int .u64 0, .string ByteArray.empty] 25)).other (g := w5.heap.size) (by omega) #[.int .u32 ge, .int .u32 gn, .int .u64 go, .string gs]
  have q2 := (q2.alloc (.cells #[.int .u32 0, .int .u32 0, .int .u64 0, .string ByteArray.empty] 25)).other (g := w5.heap.size) (by omega) #[.int .u32 ge, .int .u32 gn, .int .u64 go, .string gs]
  have q3 := (q3.alloc (.cells #[.int .u32 0, .int .u32 0, .int .u64 0, .string ByteArray.empty] 25)).other (g := w5.heap.size) (by omega) #[.int .u32 ge, .int .u32 gn, .int .u64 go, .string gs]
  have q4 := (q4.alloc (.cells #[.int .u32 0, .int .u32 0, .int .u64 0, .string ByteArray.empty] 25)).other (g := w5.heap.size) (by omega) #[.int .u32 ge, .int .u32 gn, .int .u64 go, .string gs]
  have q5 := q5.set #[.int .u32 ge, .int .u32 gn, .int .u64 go, .string gs]
  have ab := below_setRow (ab.alloc ab.size (.cells #[.int .u32 0, .int .u32 0, .int .u64 0, .string ByteArray.empty] 25)) ab.size #[.int .u32 ge, .int .u32 gn, .int .u64 go, .string gs]
  clear h5
  generalize (w5.alloc (.cells #[.int .u32 0, .int .u32 0, .int .u64 0, .string ByteArray.empty] 25)).setRow w5.heap.size #[.int .u32 ge, .int .u32 gn, .int .u64 go, .string gs] = w5x at r0 r1 q2 q3 q4 q5 ab ⊢
  generalize w5.heap.size = gw5 at q5 lw5 ⊢
  clear r0 r1
  cases K
  · obtain rfl : PE = 1 := HPE.out
    have t1 : Hid (1 = 1) := rfl
    have t2 : Hid (1 = 1) := rfl
    have t3 : Hid (1 = 1) := rfl
    have t4 : Hid (1 = 1) := rfl
    go_wp2_with (first
      | (have hh := t1; clear hh t1; refine load_row rfl 27 (.tmp 5) rfl gw2 rfl 27 (bs V) q2 256 5 Try.underlying27 size27 hVb ?_)
      | (have hh := t2; clear hh t2; refine load_row rfl 27 (.tmp 7) rfl gw3 rfl 27 (bs V) q3 256 5 Try.underlying27 size27 hVb ?_)
      | (have hh := t3; clear hh t3; refine load_cells_g rfl 25 (.tmp 9) rfl gw4 rfl 25 #[.int .u32 ge, .int .u32 gn, .int .u64 go, .string gs] q4 4 Try.underlying25 rfl size25 rfl ?_)
      | (have hh := t4; clear hh t4; refine load_cells_g rfl 25 (.tmp 11) rfl gw5 rfl 25 #[.int .u32 ge, .int .u32 gn, .int .u64 go, .string gs] q5 4 Try.underlying25 rfl size25 rfl ?_)
      | (go_at_call 13; refine (HAW.out _).mono ?_; clear HAW; rintro ex w6 ⟨rfl, h6⟩))
    go_ret
    exact ⟨rfl, ab.trans (h6.mono ab.size)⟩
  · obtain rfl : PE = 0 := HPE.out
    have t1 : Hid (1 = 1) := rfl
    have t2 : Hid (1 = 1) := rfl
    have t3 : Hid (1 = 1) := rfl
    have t4 : Hid (1 = 1) := rfl
    go_wp2_with (first
      | (have hh := t1; clear hh t1; refine load_row rfl 27 (.tmp 5) rfl gw2 rfl 27 (bs V) q2 256 5 Try.underlying27 size27 hVb ?_)
      | (have hh := t2; clear hh t2; refine load_row rfl 27 (.tmp 7) rfl gw3 rfl 27 (bs V) q3 256 5 Try.underlying27 size27 hVb ?_)
      | (have hh := t3; clear hh t3; refine load_cells_g rfl 25 (.tmp 9) rfl gw4 rfl 25 #[.int .u32 ge, .int .u32 gn, .int .u64 go, .string gs] q4 4 Try.underlying25 rfl size25 rfl ?_)
      | (have hh := t4; clear hh t4; refine load_cells_g rfl 25 (.tmp 11) rfl gw5 rfl 25 #[.int .u32 ge, .int .u32 gn, .int .u64 go, .string gs] q5 4 Try.underlying25 rfl size25 rfl ?_)
      | (go_at_call 13; refine (HAW.out _).mono ?_; clear HAW; rintro ex w6 ⟨rfl, h6⟩))
    go_ret
    exact ⟨rfl, ab.trans (h6.mono ab.size)⟩

set_option maxRecDepth 100000 in
theorem lifted (os : Os) (started : os.Started) (H : Type) (enc : TypeId × Value → H) :
    ReturnsInHanded {} Try.checked os 3 .any (Rows.ringPacksSpec.pre6 enc Try.prog Try.f3 Rows.ringPacksRow.domain false) (Rows.ringPacksSpec.post enc Try.prog Try.f3 false true false false) := by
  refine returnsInHanded_of_change_sized (C := Try.checked) own started (by kernel_rfl) Try.func3
    (ChangeSpec.witness6 (enc := enc) (C := Try.checked) false ⟨#[], #[.agg #[.int .u32 0, .int .u32 0, .int .u64 0, .string ByteArray.empty], .agg (bs (zs 256))], []⟩ 8 (by kernel_rfl) (by kernel_rfl) (by kernel_rfl) (by kernel_rfl)) ?_
  intro W base args ds gs before hval0 hW hcnd hsz0 _
  have hval : ∀ (j : Nat) t v, Try.f3.params[j]? = some t → args[j]? = some v → Value.okWide Try.prog W .any base t v := hval0
  have hW' := hW
  obtain ⟨p, q, hA0, hV, rfl, hfz, hnd⟩ := hW
  have hA : DataW.TrodAll enc Try.prog W 0 (fun _ => true) true Try.f3.params.toList args.toList ds p := hA0
  have hsz : (DataW.weightsEach Try.prog (Try.f3.params.toList ++ []) (ds ++ gs)).all (· ≤ reachBytes) = true := hsz0
  rw [Try.params3] at hA hval hsz
  obtain ⟨v0, vs0, d0, ds0, p0, q0, hargs, rfl, rfl, h0, r0⟩ := trodAll_cons hA
  obtain ⟨v1, vs1, d1, ds1, p1, q1, rfl, rfl, rfl, h1, r1⟩ := trodAll_cons r0
  obtain ⟨rfl, rfl, rfl⟩ := trodAll_nil r1
  obtain rfl : args = #[v0, v1] := by cases args; simp_all
  obtain ⟨rfl, rfl⟩ := trodVars_none hV
  simp only [List.append_nil] at hsz
  have hlt : ∀ x ∈ (p0 ++ (p1 ++ [])), x.block < W.heap.size := fun x hx => hW'.lt x (by simpa using hx)
  have hw0 : (d0.weights Try.prog 25).all (· ≤ reachBytes) = true := List.all_eq_true.2 fun m hm => List.all_eq_true.1 hsz m (by simp [DataW.weightsEach, hm])
  have hw1 : (d1.weights Try.prog 27).all (· ≤ reachBytes) = true := List.all_eq_true.2 fun m hm => List.all_eq_true.1 hsz m (by simp [DataW.weightsEach, hm])
  have k0 := h0
  have k1 := h1
  obtain ⟨a0, c0, l0, m0, rfl, w0⟩ := open_chunkv (hval 0 25 v0 rfl rfl) h0
  obtain ⟨a1, rfl, l1, w1⟩ := open_blockv (hval 1 27 v1 rfl rfl) h1
  clear hA0 hval0
  simp only [List.append_nil] at hW'
  refine (walk W a0 c0 l0 m0 a1 w0 l1 w1).mono fun e W' ⟨he, hg⟩ => ?_
  subst he
  exact ⟨_, rfl, ⟨_, _, _, [], (p0 ++ (p1 ++ [])), [], hW', (trodAll_cons_mk (shut_bool Try.underlying4 _) trodAll_mk0), (trodAll_cons_mk (Below.trod laidOut (by kernel_rfl) (of_decide_eq_true (by kernel_rfl)) k0 hg (fun x hx => hlt x (by simp [hx]))) (trodAll_cons_mk (Below.trod laidOut (by kernel_rfl) (of_decide_eq_true (by kernel_rfl)) k1 hg (fun x hx => hlt x (by simp [hx]))) trodAll_mk0)), rfl,
    hg.frame _, fun h => by cases h⟩⟩

theorem over : Rows.ringPacksRow.holds Try.pinned (OpenSpec.ofChange Rows.ringPacksSpec) :=
  OpenClaim.holds_of_wide 3 Try.f3 rfl rfl rfl rfl rfl rfl rfl ⟨rfl, rfl, rfl, rfl, rfl⟩ rfl rfl rfl rfl rfl (by kernel_rfl) Try.func3 (by kernel_rfl)
    (of_decide_eq_true (by kernel_rfl)) (by unfold Func.isWrapper; first | (rw [if_pos (by decide +kernel)]; kernel_rfl) | (rw [if_neg (by decide +kernel)]; exact ⟨rfl, rfl⟩))
    (fun os started H enc _ => lifted os started H enc)

/-- The statement. -/
theorem proved : Rows.RingPacksSaid :=
  over
#print axioms proved
end Go.Proofs.Ytbpaffjoedihbaa.ringPacks
