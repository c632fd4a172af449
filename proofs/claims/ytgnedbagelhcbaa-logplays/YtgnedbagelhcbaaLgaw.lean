/-
  Proved here: awake: a text that was laid and flushed is scanned.
-/
import Derived.Test.YtgnedbagelhcbaaLgk
import Derived.Test.YtgnedbagelhcbaaLgn
namespace Go.Proofs.Ytgnedbagelhcbaa
open Go.ChangeShapes Go.WideShapes Go.ChangeAt Go.RowKit
set_option linter.unusedVariables false
set_option linter.unusedSimpArgs false
set_option maxRecDepth 20000
theorem frS_len {s : ByteArray} (h : okF s = true) : (frS s).size = s.size + 6 := by
  unfold frS
  rw [h, if_pos rfl]
  have : (strOfNums (frT s)).size = (frT s).length := strOfNums_size _
  rw [this, frT_length]; omega
theorem LStep.fresh {w w1 w2 : World} {gd gl : Nat} {d : Dsk} {L : Loc} {N : Nat} {a z ep num fin : Int} (hD : DAt w1 gd d L N) (hb : Below w1.heap.size w1 w2) (hg : w1.heap.size ≤ gl) (hr : Row w2 gl (lcells (.pointer (some ⟨gd, 0, none⟩)) (.slice none 0 0) (.slice none 0 0) ⟨a, z, ep, [], [], ByteArray.empty, num, true, fin, fin⟩) 102) (F : Nat → Prop) (o : Off F w w1) (hF : ∀ j, foot gd L j → F j ∨ w.heap.size ≤ j) :
    LStep w gl gd F ⟨a, z, ep, [], [], ByteArray.empty, num, true, fin, fin⟩ d N w2 := by
  refine ⟨_, _, L, ⟨hr, OwnU.nil _ _, OwnCk.nil _ _, hD.below hb, (fun q => by have := hD.lt q; omega), (fun j q => by cases q), (fun j q => by cases q)⟩, o.trans (Off.of_below (F := fun _ => False) hb) (fun _ q => q.elim), fun j q => ?_⟩
  have := o.size
  rcases q with q | q | q | q
  · exact Or.inr (by omega)
  · cases q
  · cases q
  · exact hF j q
theorem foot_new {k j : Nat} (h : foot (k + 2) (Loc.new k) j) : k ≤ j := by
  rcases h with q | q | q | q | q
  · omega
  · simp [Loc.new] at q; omega
  · simp [Loc.new] at q; omega
  · simp [Loc.new, Value.ownBlock] at q
  · simp [Loc.new] at q
theorem own_one {w : World} {base : Nat} {v : Value} {c : Ck.O} (h : Ck.Own w base v [c]) : ∃ g cap cur, v = .slice (some ⟨g, 0, none⟩) 1 cap ∧ Row w g cur 65 ∧ cur[2]? = some (.int .u64 c.off) ∧ cur[3]? = some (.string c.txt) := by
  rcases h.2 with ⟨_, q⟩ | ⟨g, cap, cur, e, _, hc, _, _, hsz, ht⟩
  · cases q
  · refine ⟨g, cap, cur, e, hc, ?_, ?_⟩
    · rw [← Array.getElem?_toList]
      have := congrArg (fun l => l[2]?) ht
      simp only [List.getElem?_take] at this
      rw [if_pos (by simp)] at this; exact this
    · rw [← Array.getElem?_toList]
      have := congrArg (fun l => l[3]?) ht
      simp only [List.getElem?_take] at this
      rw [if_pos (by simp)] at this; exact this
def hiS : ByteArray := { data := #[104, 105] }
def hiL : Lg := ⟨2, 5, 1, [], [], ByteArray.empty, 0, true, 1, 1⟩
def hiC : Ck.O := ⟨1, 0, 1, frS hiS⟩
theorem hi_ok : okF hiS = true := by decide
theorem hi_size : (frS hiS).size = 8 := by rw [frS_len hi_ok]; rfl
theorem hi_full : fullA hiL (frS hiS) = false := by
  unfold fullA
  rw [hi_size]
  decide
theorem empty_app (F : ByteArray) : ByteArray.empty ++ F = F := by
  apply ByteArray.ext
  simp
theorem hi_app : appL hiL hiS = ⟨2, 5, 1, [], [], frS hiS, 0, true, 9, 1⟩ := by
  unfold appL okA
  rw [hi_ok, hi_full]
  show hiL.app (frS hiS) = _
  unfold Lg.app
  have h1 : (hiL.open_ ++ frS hiS) = frS hiS := empty_app _
  rw [h1, hi_size]
  show Lg.mk 2 5 1 [] [] (ByteArray.empty ++ frS hiS) 0 true (1 + ((frS hiS).size : Int)) 1 = _
  rw [hi_size, empty_app]; rfl
theorem hi_closed : (Lg.closed ⟨2, 5, 1, [], [], frS hiS, 0, true, 9, 1⟩) = ⟨2, 5, 1, [], [hiC], ByteArray.empty, 1, true, 9, 1⟩ := by
  unfold Lg.closed
  rw [if_neg (by show ¬ (frS hiS).size = 0; rw [hi_size]; decide)]
  unfold Lg.seal hiC
  simp only [hi_size, List.nil_append]
  have e1 : (frS hiS).extract 0 8 = frS hiS := by
    have := hi_size
    apply ByteArray.ext
    simp [ByteArray.data_extract]
    have h2 : (frS hiS).data.size = 8 := this
    rw [← h2]; simp
  have e2 : (frS hiS).extract 8 8 = ByteArray.empty := by
    apply ByteArray.ext
    simp [ByteArray.data_extract]
  rw [e1, e2]; rfl
theorem hi_c : hiC.Ok := ⟨⟨by decide, by decide⟩, ⟨by decide, by decide⟩, ⟨by decide, by decide⟩, by show okC (frS hiS) = true; unfold okC; rw [hi_size]; decide⟩
theorem hi_inv : (Lg.mk 2 5 1 [] [] (frS hiS) 0 true 9 1).Inv := ⟨⟨by decide, by decide⟩, ⟨by decide, by decide⟩, ⟨by decide, by decide⟩, ⟨by decide, by decide⟩, by show (frS hiS).size < 214; rw [hi_size]; decide, by show ((frS hiS).size : Int) ≤ 9; rw [hi_size]; decide, (fun c hc => by cases hc), by show (0 : Int) + 0 + wantN ((frS hiS).size : Int) ≤ 5; rw [hi_size]; decide⟩
theorem hi_flush : ∃ d', flushR ⟨2, 5, 1, [], [], frS hiS, 0, true, 9, 1⟩ (Dsk.new 8) = (0, ⟨2, 5, 1, [1], [], ByteArray.empty, 1, false, 9, 9⟩, d') ∧ Well d' 8 3 ∧ (∀ b, d'.seen b = putB 2 5 (fun _ => zs 256) [hiC] b) := by
  obtain ⟨d', h1, h2, h3, _, _⟩ := flush_well (n := 8) ⟨2, 5, 1, [], [], frS hiS, 0, true, 9, 1⟩ (Dsk.new 8) 0 (new_well 8) (fun c hc => place_in 2 5 8 c.num (by decide)) (by rw [hi_closed]) (by rw [hi_closed])
  refine ⟨d', ?_, ?_, fun b => ?_⟩
  · rw [h1]
    unfold Lg.fl
    rw [hi_closed]; rfl
  · rw [hi_closed] at h2; exact h2
  · rw [h3 b, hi_closed]
    have : (Dsk.new 8).seen = fun _ => zs 256 := funext (new_seen 8)
    rw [this]
theorem hi_scan {f : Int → List Int} (h : ∀ b, f b = putB 2 5 (fun _ => zs 256) [hiC] b) : scanL 2 5 0 f 5 0 = [hiC] := by
  obtain ⟨k1, k2, k3, k4⟩ := chk_blk hiC hi_c
  have f2 : f 2 = blkC hiC := by rw [h]; rfl
  have f3 : f 3 = zs 256 := by rw [h]; rfl
  have e0 : placeV 2 5 (IntKind.u32.wrap (0 + 0)) = 2 := by decide
  have e1 : placeV 2 5 (IntKind.u32.wrap (0 + (0 + 1))) = 3 := by decide
  unfold scanL
  rw [e0, f2, k1, k2]
  show (if (true && decide ((0 : Int) = IntKind.u32.wrap (0 + 0))) = true then _ else _) = _
  rw [if_pos (by decide), k4]
  unfold scanL
  rw [e1, f3, isB_zs]
  rfl
set_option maxHeartbeats 8000000 in
theorem awake_any (w : World) : Calls Try.prog 10 #[] w fun e w' => e = .returned (.bool true) ∧ Below w.heap.size w w' := by
  have HND : Hid _ := new_some 8 (by decide) (by decide) w
  have HFR : Hid (∀ w, Calls Try.prog 41 #[.string { data := #[104, 105] }] w fun ex w' => ex = .returned (.string (frS hiS)) ∧ Below w.heap.size w w') := fun w => frame_any hiS w (by decide)
  obtain ⟨d2, hfl, hw2, hs2⟩ := hi_flush
  obtain ⟨j, hsc, _⟩ := scan_well (a := 2) (z := 5) (fst := 0) (n := 8) (by decide) hw2
  rw [show (5 : Int).toNat = 5 from rfl, hi_scan hs2] at hsc
  have HLN : Hid (∀ w1 gd L, DAt w1 gd (Dsk.new 8) L 0 → Calls Try.prog 11 #[.pointer (some ⟨gd, 0, none⟩), .int .i64 2, .int .i64 5, .int .u32 1, .slice none 0 0, .int .u32 0, .int .u64 1] w1 fun e w' => Made w1 (some ⟨gd, 0, none⟩) 2 5 1 0 1 true e w') := fun w1 gd L hD => by
    have := lnew_nil (some ⟨gd, 0, none⟩) 2 5 1 0 1 8 w1 (by decide) (by decide) (fun wa hb => size_any (hD.below hb))
    have e : okR 2 5 8 = true := by decide
    rw [e] at this; exact this
  have HAP : Hid (∀ wr gl gd, LStep w gl gd (fun _ => False) hiL (Dsk.new 8) 0 wr → Calls Try.prog 13 #[.pointer (some ⟨gl, 0, none⟩), .string { data := #[104, 105] }] wr fun e w' => e = .returned (.tuple #[.int .u64 1, .int .i64 0]) ∧ LStep w gl gd (fun _ => False) ⟨2, 5, 1, [], [], frS hiS, 0, true, 9, 1⟩ (Dsk.new 8) 0 w') := fun wr gl gd h => by
    have := LStep.app h hiS (by decide) (by decide) (by decide) (by decide) ⟨by decide, by decide⟩ ⟨by decide, by decide⟩
    rw [hi_app] at this
    have e1 : appA hiL hiS = 1 := by unfold appA okA; rw [hi_ok, hi_full]; rfl
    have e2 : appE hiL hiS = 0 := by unfold appE; rw [hi_ok, hi_full]; rfl
    rw [e1, e2] at this; exact this
  have HFH : Hid (∀ wr gl gd, LStep w gl gd (fun _ => False) ⟨2, 5, 1, [], [], frS hiS, 0, true, 9, 1⟩ (Dsk.new 8) 0 wr → Calls Try.prog 15 #[.pointer (some ⟨gl, 0, none⟩)] wr fun e w' => e = .returned (.int .i64 0) ∧ LStep w gl gd (fun _ => False) ⟨2, 5, 1, [1], [], ByteArray.empty, 1, false, 9, 9⟩ d2 4000 w') := fun wr gl gd h => by
    have := LStep.flush h hi_inv (by decide) (by decide) (by decide)
    rw [hfl] at this; exact this
  have HSC : Hid (∀ wr gl gd, LStep w gl gd (fun _ => False) ⟨2, 5, 1, [1], [], ByteArray.empty, 1, false, 9, 9⟩ d2 4000 wr → Calls Try.prog 34 #[.pointer (some ⟨gd, 0, none⟩), .int .i64 2, .int .i64 5, .int .u32 0] wr fun e w' => SStep w wr gl gd (fun _ => False) ⟨2, 5, 1, [1], [], ByteArray.empty, 1, false, 9, 9⟩ 4000 ([hiC], 0, d2.tick j) e w') := fun wr gl gd h => by
    have := LStep.scan h 2 5 0 (by decide) (by decide) (by have := hw2.hi; omega)
    rw [hsc] at this; exact this
  clear hfl hw2 hs2 hsc
  go_enter Try.func10, Try.ntmps10
  go_upto_region 3 with (first
    | (go_at_call 9; refine Calls.mono HND.out ?_; clear HND; rintro e w1 ⟨rfl, D1, B1⟩)
    | (go_at_call 11; refine Calls.mono (HLN.out _ _ _ D1) ?_; clear HLN; rintro e w2 ⟨B2, -, hm⟩
       obtain ⟨gl, hgl, he, hr⟩ := hm rfl
       obtain rfl := he))
  have S2 : LStep w gl (w.heap.size + 2) (fun _ => False) hiL (Dsk.new 8) 0 w2 := LStep.fresh D1 B2 hgl hr (fun _ => False) (Off.of_below B1) (fun j q => Or.inr (foot_new q))
  clear D1 B1 B2 hr hgl
  go_upto_region 8 with (first
    | (go_at_call 13; refine Calls.mono (HAP.out _ _ _ S2) ?_; clear HAP S2; rintro e w3 ⟨rfl, S3⟩)
    | (go_at_call 15; refine Calls.mono (HFH.out _ _ _ S3) ?_; clear HFH S3; rintro e w4 ⟨rfl, S4⟩)
    | (go_at_call 34; refine Calls.mono (HSC.out _ _ _ S4) ?_; clear HSC S4; rintro e w5 ⟨v, he, own5, S5⟩
       obtain ⟨g, cap, cur, rfl, rc, hc2, hc3⟩ := own_one own5
       obtain rfl := he))
  have sb : Below w.heap.size w w5 := by
    obtain ⟨_, _, _, _, o, _⟩ := S5
    exact o.below (Nat.le_refl _) (fun _ q => q.elim)
  clear S5 own5
  have hc2 : cur[2]? = some (.int .u64 1) := hc2
  have hc3 : cur[3]? = some (.string (frS hiS)) := hc3
  generalize frS hiS = F at hc3 HFR
  refine wp_region_held_drew (S := fun w' => Row w' g cur 65 ∧ Below w.heap.size w w') (by kernel_rfl) ⟨rc, sb.drew⟩ fun hS => ?_
  clear rc sb
  generalize w5.drew = W0 at hS ⊢
  refine wpAnyH_take (i := 0) (v := .int .i64 0) rfl (by kernel_rfl) (by kernel_rfl) (by kernel_rfl) (fun _ _ _ h => h) (Or.inl ⟨by rfl, fun w _ => by go_simp⟩) hS ?_
  try simp only [Act.put, nz0, nz1, nz2, nz3, nz4, nz5]
  refine wpAnyH_take (i := 1) (v := .bool true) rfl (by kernel_rfl) (by kernel_rfl) (by kernel_rfl) (fun _ _ _ h => h) (Or.inl ⟨by rfl, fun w _ => by go_simp⟩) hS ?_
  try simp only [Act.put, nz0, nz1, nz2, nz3, nz4, nz5]
  refine wpAnyH_take (i := 2) (v := .bool true) rfl (by kernel_rfl) (by kernel_rfl) (by kernel_rfl) (fun _ _ _ h => h) (Or.inl ⟨by rfl, fun w _ => by go_simp⟩) hS ?_
  try simp only [Act.put, nz0, nz1, nz2, nz3, nz4, nz5]
  refine wpAnyH_take (i := 3) (v := .int .i64 0) rfl (by kernel_rfl) (by kernel_rfl) (by kernel_rfl) (fun _ _ _ h => h) (Or.inl ⟨by rfl, fun w _ => by go_simp⟩) hS ?_
  try simp only [Act.put, nz0, nz1, nz2, nz3, nz4, nz5]
  refine wpAnyH_take (i := 4) (v := .bool true) rfl (by kernel_rfl) (by kernel_rfl) (by kernel_rfl) (fun _ _ _ h => h) (Or.inl ⟨by rfl, fun w _ => by go_simp⟩) hS ?_
  try simp only [Act.put, nz0, nz1, nz2, nz3, nz4, nz5]
  refine wpAnyH_take (i := 5) (v := .bool true) rfl (by kernel_rfl) (by kernel_rfl) (by kernel_rfl) (fun _ _ _ h => h) (Or.inl ⟨by rfl, fun w _ => by go_simp⟩) hS ?_
  try simp only [Act.put, nz0, nz1, nz2, nz3, nz4, nz5]
  refine wpAnyH_take (i := 6) (v := .bool true) rfl (by kernel_rfl) (by kernel_rfl) (by kernel_rfl) (fun _ _ _ h => h) (Or.inl ⟨by rfl, fun w _ => by go_simp⟩) hS ?_
  try simp only [Act.put, nz0, nz1, nz2, nz3, nz4, nz5]
  refine wpAnyH_take (i := 7) (v := .int .i64 0) rfl (by kernel_rfl) (by kernel_rfl) (by kernel_rfl) (fun _ _ _ h => h) (Or.inl ⟨by rfl, fun w _ => by go_simp⟩) hS ?_
  try simp only [Act.put, nz0, nz1, nz2, nz3, nz4, nz5]
  refine wpAnyH_take (i := 8) (v := .bool true) rfl (by kernel_rfl) (by kernel_rfl) (by kernel_rfl) (fun _ _ _ h => h) (Or.inl ⟨by rfl, fun w _ => by go_simp⟩) hS ?_
  try simp only [Act.put, nz0, nz1, nz2, nz3, nz4, nz5]
  refine wpAnyH_take (i := 9) (v := .bool true) rfl (by kernel_rfl) (by kernel_rfl) (by kernel_rfl) (fun _ _ _ h => h) (Or.inl ⟨by rfl, fun w _ => by go_simp⟩) hS ?_
  try simp only [Act.put, nz0, nz1, nz2, nz3, nz4, nz5]
  refine wpAnyH_take (i := 10) (v := .bool true) rfl (by kernel_rfl) (by kernel_rfl) (by kernel_rfl) (fun _ _ _ h => h) (Or.inl ⟨by rfl, fun w _ => by go_simp⟩) hS ?_
  try simp only [Act.put, nz0, nz1, nz2, nz3, nz4, nz5]
  refine wpAnyH_take (i := 11) (v := .int .u64 1) rfl (by kernel_rfl) (by kernel_rfl) (by kernel_rfl) (fun _ _ _ h => h) (Or.inl ⟨by rfl, fun w _ => by go_simp⟩) hS ?_
  try simp only [Act.put, nz0, nz1, nz2, nz3, nz4, nz5]
  refine wpAnyH_take (i := 12) (v := .bool true) rfl (by kernel_rfl) (by kernel_rfl) (by kernel_rfl) (fun _ _ _ h => h) (Or.inl ⟨by rfl, fun w _ => by go_simp⟩) hS ?_
  try simp only [Act.put, nz0, nz1, nz2, nz3, nz4, nz5]
  refine wpAnyH_take (i := 13) (v := .bool true) rfl (by kernel_rfl) (by kernel_rfl) (by kernel_rfl) (fun _ _ _ h => h) (Or.inl ⟨by rfl, fun w _ => by go_simp⟩) hS ?_
  try simp only [Act.put, nz0, nz1, nz2, nz3, nz4, nz5]
  refine wpAnyH_take (i := 14) (v := .bool true) rfl (by kernel_rfl) (by kernel_rfl) (by kernel_rfl) (fun _ _ _ h => h) (Or.inl ⟨by rfl, fun w _ => by go_simp⟩) hS ?_
  try simp only [Act.put, nz0, nz1, nz2, nz3, nz4, nz5]
  refine wpAnyH_take (i := 15) (v := .slice (some ⟨g, 0, none⟩) 1 cap) rfl (by kernel_rfl) (by kernel_rfl) (by kernel_rfl) (fun _ _ _ h => h) (Or.inl ⟨by rfl, fun w _ => by go_simp⟩) hS ?_
  try simp only [Act.put, nz0, nz1, nz2, nz3, nz4, nz5]
  refine wpAnyH_take (i := 16) (v := .int .i64 1) rfl (by kernel_rfl) (by kernel_rfl) (by kernel_rfl) (fun _ _ _ h => h) (Or.inl ⟨by rfl, fun w _ => by go_simp⟩) hS ?_
  try simp only [Act.put, nz0, nz1, nz2, nz3, nz4, nz5]
  refine wpAnyH_take (i := 17) (v := .bool true) rfl (by kernel_rfl) (by kernel_rfl) (by kernel_rfl) (fun _ _ _ h => h) (Or.inl ⟨by rfl, fun w _ => by go_simp⟩) hS ?_
  try simp only [Act.put, nz0, nz1, nz2, nz3, nz4, nz5]
  refine wpAnyH_take (i := 18) (v := .bool true) rfl (by kernel_rfl) (by kernel_rfl) (by kernel_rfl) (fun _ _ _ h => h) (Or.inl ⟨by rfl, fun w _ => by go_simp⟩) hS ?_
  try simp only [Act.put, nz0, nz1, nz2, nz3, nz4, nz5]
  refine wpAnyH_take (i := 19) (v := .bool true) rfl (by kernel_rfl) (by kernel_rfl) (by kernel_rfl) (fun _ _ _ h => h) (Or.inl ⟨by rfl, fun w _ => by go_simp⟩) hS ?_
  try simp only [Act.put, nz0, nz1, nz2, nz3, nz4, nz5]
  refine wpAnyH_take (i := 20) (v := .slice (some ⟨g, 0, none⟩) 1 cap) rfl (by kernel_rfl) (by kernel_rfl) (by kernel_rfl) (fun _ _ _ h => h) (Or.inl ⟨by rfl, fun w _ => by go_simp⟩) hS ?_
  try simp only [Act.put, nz0, nz1, nz2, nz3, nz4, nz5]
  refine wpAnyH_take (i := 21) (v := .pointer (some ⟨g, 0, none⟩)) rfl (by kernel_rfl) (by kernel_rfl) (by kernel_rfl) (fun _ _ _ h => h) (Or.inl ⟨by rfl, fun w _ => by go_simp⟩) hS ?_
  try simp only [Act.put, nz0, nz1, nz2, nz3, nz4, nz5]
  refine wpAnyH_take (i := 22) (v := .pointer (some ⟨g, 2, none⟩)) rfl (by kernel_rfl) (by kernel_rfl) (by kernel_rfl) (fun _ _ _ h => h) (Or.inl ⟨by rfl, fun w _ => by go_simp⟩) hS ?_
  try simp only [Act.put, nz0, nz1, nz2, nz3, nz4, nz5]
  refine wpAnyH_take (i := 23) (v := .int .u64 1) rfl (by kernel_rfl) (by kernel_rfl) (by kernel_rfl) (fun _ _ _ h => h) (Or.inl ⟨by rfl, fun w h => by have c := row_at h.1 2 _ hc2; go_simp⟩) hS ?_
  try simp only [Act.put, nz0, nz1, nz2, nz3, nz4, nz5]
  refine wpAnyH_take (i := 24) (v := .bool true) rfl (by kernel_rfl) (by kernel_rfl) (by kernel_rfl) (fun _ _ _ h => h) (Or.inl ⟨by rfl, fun w _ => by go_simp⟩) hS ?_
  try simp only [Act.put, nz0, nz1, nz2, nz3, nz4, nz5]
  refine wpAnyH_take (i := 25) (v := .bool true) rfl (by kernel_rfl) (by kernel_rfl) (by kernel_rfl) (fun _ _ _ h => h) (Or.inl ⟨by rfl, fun w _ => by go_simp⟩) hS ?_
  try simp only [Act.put, nz0, nz1, nz2, nz3, nz4, nz5]
  refine wpAnyH_take (i := 26) (v := .bool true) rfl (by kernel_rfl) (by kernel_rfl) (by kernel_rfl) (fun _ _ _ h => h) (Or.inl ⟨by rfl, fun w _ => by go_simp⟩) hS ?_
  try simp only [Act.put, nz0, nz1, nz2, nz3, nz4, nz5]
  refine wpAnyH_take (i := 27) (v := .slice (some ⟨g, 0, none⟩) 1 cap) rfl (by kernel_rfl) (by kernel_rfl) (by kernel_rfl) (fun _ _ _ h => h) (Or.inl ⟨by rfl, fun w _ => by go_simp⟩) hS ?_
  try simp only [Act.put, nz0, nz1, nz2, nz3, nz4, nz5]
  refine wpAnyH_take (i := 28) (v := .pointer (some ⟨g, 0, none⟩)) rfl (by kernel_rfl) (by kernel_rfl) (by kernel_rfl) (fun _ _ _ h => h) (Or.inl ⟨by rfl, fun w _ => by go_simp⟩) hS ?_
  try simp only [Act.put, nz0, nz1, nz2, nz3, nz4, nz5]
  refine wpAnyH_take (i := 29) (v := .pointer (some ⟨g, 3, none⟩)) rfl (by kernel_rfl) (by kernel_rfl) (by kernel_rfl) (fun _ _ _ h => h) (Or.inl ⟨by rfl, fun w _ => by go_simp⟩) hS ?_
  try simp only [Act.put, nz0, nz1, nz2, nz3, nz4, nz5]
  refine wpAnyH_take (i := 30) (v := .string F) rfl (by kernel_rfl) (by kernel_rfl) (by kernel_rfl) (fun _ _ _ h => h) (Or.inl ⟨by rfl, fun w h => by have c := row_at h.1 3 _ hc3; go_simp⟩) hS ?_
  try simp only [Act.put, nz0, nz1, nz2, nz3, nz4, nz5]
  refine wpAnyH_ready (rs := [31]) (by kernel_rfl) (by simp) ?_
  refine AllReadyH.cons rfl (fun K hK => ?_) AllReadyH.nil
  go_simp
  go_at_call 41
  refine Calls.mono (HFR.out _) ?_
  rintro e w1_31 ⟨rfl, hcb⟩
  refine hK.out _ _ (⟨hS.1.below hcb hS.1.lt, hS.2.trans (hcb.mono hS.2.size)⟩) fun hS => ?_
  try simp only [Act.put, nz0, nz1, nz2, nz3, nz4, nz5]
  clear hcb
  refine wpAnyH_take (i := 32) (v := .bool true) rfl (by kernel_rfl) (by kernel_rfl) (by kernel_rfl) (fun _ _ _ h => h) (Or.inl ⟨by rfl, fun w _ => by go_simp⟩) hS ?_
  try simp only [Act.put, nz0, nz1, nz2, nz3, nz4, nz5]
  refine wpAnyH_take (i := 33) (v := .bool true) rfl (by kernel_rfl) (by kernel_rfl) (by kernel_rfl) (fun _ _ _ h => h) (Or.inl ⟨by rfl, fun w _ => by go_simp⟩) hS ?_
  try simp only [Act.put, nz0, nz1, nz2, nz3, nz4, nz5]
  refine wpAnyH_take (i := 34) (v := .bool true) rfl (by kernel_rfl) (by kernel_rfl) (by kernel_rfl) (fun _ _ _ h => h) (Or.inl ⟨by rfl, fun w _ => by go_simp⟩) hS ?_
  try simp only [Act.put, nz0, nz1, nz2, nz3, nz4, nz5]
  refine wpAnyH_done (by kernel_rfl) ?_ _
  go_wp2
  try go_ret
  first
    | exact ⟨rfl, hS.2⟩
    | exact hS.2
end Go.Proofs.Ytgnedbagelhcbaa
