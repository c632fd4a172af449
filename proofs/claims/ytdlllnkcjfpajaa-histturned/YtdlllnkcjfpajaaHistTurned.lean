/-
  HistTurned: the order in which transactions stand makes no difference. No conditions.
-/
import Derived.Test.YtdlllnkcjfpajaaJq16
namespace Go.Proofs.Ytdlllnkcjfpajaa.histTurned
open Go.ChangeShapes Go.WideShapes Go.ChangeAt Go.RowKit
open Go.Deep
set_option linter.unusedVariables false
set_option linter.unusedSimpArgs false
theorem own : ownKnob Try.prog.godebug = none := by kernel_rfl
set_option maxRecDepth 20000 in
set_option maxHeartbeats 8000000 in
theorem walk (w : World) (v0 : Value) (a0 : List Hm) (nI : Int) (p0 : Pasts w v0 a0) (wn : (Lit.int .u8 nI).wf = true) :
    Calls Try.prog 5 #[v0, .int .u8 nI] w fun e w' => e = .returned (.bool true) ∧ Below w.heap.size w w' := by
  have hz39 := Pa.zero39
  have hf0 := p0.copied
  obtain ⟨n, rfl, hn255⟩ : ∃ n : Nat, nI = (n : Int) ∧ n ≤ 255 := ⟨nI.toNat, by have := bounds_u8 wn; omega, by have := bounds_u8 wn; omega⟩
  have HFO : Hid (∀ w', Below w.heap.size w w' → (fun e w' => e = Ending.returned (.bool true) ∧ Below w.heap.size w w') (.returned (.bool true)) w') := fun w' h => ⟨rfl, h⟩
  generalize (fun e w' => e = Ending.returned (.bool true) ∧ Below w.heap.size w w') = PP at HFO ⊢
  have HF0 : Hid (∀ e w', Fewed w a0 e w' → ∃ v qs, e = .returned v ∧ Helds w' v qs ∧ qs.map Hm.p = (a0.take 9).map (fun h => cutP h.p) ∧ Below w.heap.size w w' ∧ Pa.Own w' w.heap.size v (qs.map Hm.o) ∧ ∀ h ∈ qs, Own1 w' w.heap.size h) := fun e w' q => q
  generalize Fewed w a0 = F0 at hf0 HF0
  clear p0 wn
  obtain ⟨B, HB⟩ : ∃ B, Hid (w.heap.size = B) := ⟨_, rfl⟩
  go_enter Try.func5, Try.ntmps5
  go_upto_region 2 with (go_at_call 10; refine hf0.mono ?_; clear hf0; intro e w1 hq; obtain ⟨v2, qs, he, hh, hp, hb, hown, heach⟩ := HF0.out _ _ hq; obtain rfl := he; clear hq; have HH0 : Hid (Helds w1 v2 qs) := hh; have HOW : Hid (Pa.Own w1 w.heap.size v2 (qs.map Hm.o)) := hown; obtain ⟨oa2, cap2, hv2, hcs2⟩ := Pa.Own.holdP hown; obtain ⟨n2, HN2⟩ : ∃ n2, Hid (qs.length = n2) := ⟨_, rfl⟩; rw [HN2.out] at hv2 hcs2; subst hv2; have HH : Hid (Helds w1 (.slice oa2 n2 cap2) qs) := hh; have HCS : Hid (∀ i, i < n2 → ∃ (a : Addr) (x : Hm), oa2 = some a ∧ qs[i]? = some x ∧ ∀ j u, x.o.cells[j]? = some u → w1.cell? ((a.add (i * 5)).add j) = some u) := hcs2; clear hcs2; have HB1 : Hid (Below w.heap.size w w1) := hb; have HE : Hid (∀ h ∈ qs, Own1 w1 w.heap.size h) := heach; have HP : Hid (qs.map Hm.p = (a0.take 9).map (fun h => cutP h.p)) := hp; clear hh hp hb hown heach)
  have hq9 : qs.length ≤ 9 := by
    have := congrArg List.length HP.out
    simp at this
    omega
  have hc1 := check_any HH.out (by omega) (Nat.le_trans (List.length_filter_le _ _) (by omega))
  have HC : Hid (∀ (ps : List Hm) (w0 : World) e w', Checked w0 ps e w' → ∃ x er, e = .returned (.tuple #[.int .u8 x, .int .i64 er]) ∧ ResH ps x er ∧ Below w0.heap.size w0 w') := fun ps w0 e w' q => q.res
  obtain ⟨C1, HC1⟩ : ∃ C1, Hid (Checked w1 qs = C1) := ⟨_, rfl⟩
  rw [HC1.out] at hc1
  go_upto_region 3 with (go_at_call 11; refine hc1.mono ?_; clear hc1; intro e w2 hq; rw [← HC1.out] at hq; obtain ⟨x, er, he, hr, hb⟩ := HC.out _ _ _ _ hq; obtain rfl := he; clear hq; have HR : Hid (ResH qs x er) := hr; have HB2 : Hid (Below w1.heap.size w1 w2) := hb; clear hr hb)
  have HB02 : Hid (Below w.heap.size w w2) := below_trans HB1.out HB2.out
  have hn9 : n2 ≤ 9 := by rw [← HN2.out]; exact hq9
  obtain ⟨S2, HS2⟩ : ∃ S2, Hid (w2.heap.size = S2) := ⟨_, rfl⟩
  have A0 : Pa.Own w2 S2 (.slice none 0 0) (([] : List Hm).map Hm.o) := ⟨rfl, Or.inl ⟨rfl, rfl⟩⟩
  have L0 : ([] : List Hm).length = 0 := rfl
  have E0 : ∀ i, i < 0 → ([] : List Hm)[i]? = qs[(i + n) % n2]? := fun i hi => by omega
  have B0 : Below w2.heap.size w2 w2 := Below.refl _ _
  go_upto_region 5 with fail
  go_loopw [7, 20] (fun p q wr => ∃ (v' : Value) (k : Nat) (al : List Hm), v' = p ∧ q = .int .i64 (k : Int) ∧ k ≤ n2 ∧ Pa.Own wr S2 v' (al.map Hm.o) ∧ al.length = k ∧ (∀ i, i < k → al[i]? = qs[(i + n) % n2]?) ∧ Below w2.heap.size w2 wr) (fun p q _ => 10 - (intOf q).toNat)
  case atStart => exact ⟨_, 0, [], rfl, rfl, Nat.zero_le _, A0, L0, E0, B0⟩
  case round =>
    clear A0 L0 E0 B0
    obtain ⟨v', k, al, rfl, rfl, hk, hA, hl, hE, hB⟩ := hrel
    have HA : Hid (Pa.Own wr S2 v' (al.map Hm.o)) := hA
    have HL : Hid (al.length = k) := hl
    have HE2 : Hid (∀ i, i < k → al[i]? = qs[(i + n) % n2]?) := hE
    have HBW : Hid (Below w2.heap.size w2 wr) := hB
    clear hA hl hE hB
    by_cases hlt : k < n2
    · have hlt' : (k : Int) < (n2 : Int) := by omega
      obtain ⟨i, hi⟩ : ∃ i, (k + n) % n2 = i := ⟨_, rfl⟩
      have hi2 : i < n2 := by rw [← hi]; exact Nat.mod_lt _ (by omega)
      have HI : Hid ((k + n) % n2 = i) := hi
      have hmod : Int.tmod ((k : Int) + (n : Int)) (n2 : Int) = (i : Int) := by
        rw [show ((k : Int) + (n : Int)) = ((k + n : Nat) : Int) by omega]
        exact congrArg Int.ofNat hi
      have hne : ¬ (n2 : Int) = 0 := by omega
      have i1 : (i : Int) < (n2 : Int) := by omega
      have i3 : (0 : Int) ≤ (i : Int) := by omega
      obtain ⟨a, x, rfl, hx, hcell⟩ := HCS.out i hi2
      have HX : Hid (qs[i]? = some x) := hx
      have hcw : ∀ q u, x.o.cells[q]? = some u → wr.cell? ((a.add (i * 5)).add q) = some u := fun q u hq => cell_keep (cell_keep (hcell q u hq) HB2.out) HBW.out
      have rZ : Row (wr.alloc (.cells x.o.arr 39)) wr.heap.size x.o.arr 39 := Row.new _ _ _
      have b7 : Below wr.heap.size wr (wr.alloc (.cells x.o.arr 39)) := (Below.refl _ _).alloc (Nat.le_refl _) _
      have HB7 : Hid (Below w2.heap.size w2 (wr.alloc (.cells x.o.arr 39))) := below_trans HBW.out b7
      have HA7 : Hid (Pa.Own (wr.alloc (.cells x.o.arr 39)) S2 v' (al.map Hm.o)) := HA.out.keep b7
      have HAP : Hid (∀ ty, ∃ v'' w'', (Builtin.append_ #[22, 22] ty #[v', .slice (some ⟨wr.heap.size, 0, none⟩) 1 1]).run Try.prog (wr.alloc (.cells x.o.arr 39)) = .ok v'' w'' ∧ Pa.Own w'' S2 v'' (al.map Hm.o ++ [x.o]) ∧ (wr.alloc (.cells x.o.arr 39)).grownBy w'' v'.ownBlock) := fun ty => HA7.out.snocP ty _ _ rZ (by rw [← HS2.out]; exact HB7.out.size) (by rw [List.length_map, HL.out]; omega)
      clear rZ b7 hcell hx hi
      go_wp2_with (first
        | (refine wpList_load_any rfl 39 (.tmp 32) rfl (a.add (i * 5)) rfl x.o.cells _ hcw Try.underlying39 rfl Pa.size39 ?_; clear hcw)
        | (refine wpList_one rfl (.tmp 33) rfl x.o rfl ?_)
        | (refine Pa.wpList_copy rfl (.tmp 23) (.tmp 34) 22 rfl v' (.slice (some ⟨wr.heap.size, 0, none⟩) 1 1) rfl rfl HAP.out ?_
           clear HAP
           generalize wr.alloc (.cells x.o.arr 39) = w7 at HA7 HB7
           rintro v8 w8 ⟨hA8, hg8⟩
           have HA8 : Hid (Pa.Own w8 S2 v8 ((al ++ [x]).map Hm.o)) := by show Pa.Own _ _ _ _; rw [List.map_append]; exact hA8
           have HB8 : Hid (Below w2.heap.size w2 w8) := below_off HB7.out (Off.of_grown hg8 (fun g e => e)) (fun g hg => by rw [HS2.out]; exact (World.ownsRow.lt HA7.out g hg).1)
           clear hA8 hg8 HA7))
      go_roundw
      case rel => exact ⟨v8, k + 1, al ++ [x], rfl, by go_num, by omega, HA8.out, by rw [List.length_append, HL.out]; rfl, fun j hj => by
        by_cases e : j = k
        · subst e
          rw [List.getElem?_append_right (by rw [HL.out]; exact Nat.le_refl _), HL.out, Nat.sub_self, HI.out, HX.out]; rfl
        · rw [List.getElem?_append_left (by rw [HL.out]; omega)]; exact HE2.out j (by omega), HB8.out⟩
      case measure => simp [intOf]; omega
    · have hlt' : ¬ (k : Int) < (n2 : Int) := by omega
      obtain rfl : k = n2 := by omega
      have HPM : Hid (al.Perm qs) := turned_perm (n := n) (by rw [HL.out, HN2.out]) (fun i hi => by rw [HN2.out]; exact HE2.out i (by rw [← HL.out]; exact hi))
      have HBR : Hid (Below w.heap.size w wr) := below_trans HB02.out HBW.out
      have hh : Helds wr v' al := ⟨HA.out.olds, fun h hm => (HH.out.each h (HPM.out.mem_iff.1 hm)).keep (below_trans HB2.out HBW.out), fun h hm => HH.out.fit h (HPM.out.mem_iff.1 hm)⟩
      have HIS : Hid (isHF (qs.map Hm.p) [] = isHF (al.map Hm.p) []) := isHF_perm (HPM.out.symm.map Hm.p) []
      have HPR : Hid (((qs.filter fun h => h.p.dn).map Hm.p).Perm ((al.filter fun h => h.p.dn).map Hm.p)) := (HPM.out.symm.filter _).map Hm.p
      have hc2 := check_any hh (by rw [HL.out]; omega) (Nat.le_trans (List.length_filter_le _ _) (by rw [HL.out]; omega))
      have HAW : Hid (∀ w', Calls Try.prog 14 #[] w' fun e w'' => e = .returned (.bool true) ∧ Below w'.heap.size w' w'') := fun w' => awake_any w'
      obtain ⟨C2, HC2⟩ : ∃ C2, Hid (Checked wr al = C2) := ⟨_, rfl⟩
      rw [HC2.out] at hc2
      clear hh
      go_wp2_with (first
        | (go_at_call 11; refine hc2.mono ?_; clear hc2; intro e w9 hq; rw [← HC2.out] at hq; obtain ⟨y, fr, he, hr2, hb9⟩ := HC.out _ _ _ _ hq; obtain rfl := he; clear hq; obtain ⟨e1, e2⟩ := HR.out.det hr2 HIS.out HPR.out; subst e1 e2; have HB9 : Hid (Below w.heap.size w w9) := below_trans HBR.out hb9; have haw := HAW.out w9; clear hr2 hb9)
        | (go_at_call 14; refine haw.mono ?_; clear haw; rintro e w10 ⟨he, hb10⟩; obtain rfl := he; have hfin := HFO.out w10 (below_trans HB9.out hb10); clear hb10))
      exact hfin
set_option maxRecDepth 100000 in
theorem lifted (os : Os) (started : os.Started) (H : Type) (enc : TypeId × Value → H) :
    ReturnsInHanded {} Try.checked os 5 .any (Rows.histTurnedSpec.pre6 enc Try.prog Try.f5 Rows.histTurnedRow.domain false) (Rows.histTurnedSpec.post enc Try.prog Try.f5 false true false false) := by
  refine returnsInHanded_of_change_sized (C := Try.checked) own started (by kernel_rfl) Try.func5
    (ChangeSpec.witness6 (enc := enc) (C := Try.checked) false ⟨#[], #[.slice none 0 0, .int .u8 0], []⟩ 8 (by kernel_rfl) (by kernel_rfl) (by kernel_rfl) (by kernel_rfl)) ?_
  intro W base args ds gs before hval0 hW hcnd hsz0 _
  have hval : ∀ (j : Nat) t v, Try.f5.params[j]? = some t → args[j]? = some v → Value.okWide Try.prog W .any base t v := hval0
  have hW' := hW
  obtain ⟨p, q, hA0, hV, rfl, hfz, hnd⟩ := hW
  have hA : DataW.TrodAll enc Try.prog W 0 (fun _ => true) true Try.f5.params.toList args.toList ds p := hA0
  have hsz : (DataW.weightsEach Try.prog (Try.f5.params.toList ++ []) (ds ++ gs)).all (· ≤ reachBytes) = true := hsz0
  rw [Try.params5] at hA hval hsz
  obtain ⟨v0, vs0, d0, ds0, p0, q0, hargs, rfl, rfl, h0, r0⟩ := trodAll_cons hA
  obtain ⟨v1, vs1, d1, ds1, p1, q1, rfl, rfl, rfl, h1, r1⟩ := trodAll_cons r0
  obtain ⟨rfl, rfl, rfl⟩ := trodAll_nil r1
  obtain rfl : args = #[v0, v1] := by cases args; simp_all
  obtain ⟨rfl, rfl⟩ := trodVars_none hV
  simp only [List.append_nil] at hsz
  have hlt : ∀ x ∈ (p0 ++ (p1 ++ [])), x.block < W.heap.size := fun x hx => hW'.lt x (by simpa using hx)
  have hw0 : (d0.weights Try.prog 22).all (· ≤ reachBytes) = true := List.all_eq_true.2 fun m hm => List.all_eq_true.1 hsz m (by simp [DataW.weightsEach, hm])
  have hw1 : (d1.weights Try.prog 5).all (· ≤ reachBytes) = true := List.all_eq_true.2 fun m hm => List.all_eq_true.1 hsz m (by simp [DataW.weightsEach, hm])
  have k0 := h0
  have k1 := h1
  obtain ⟨a0, w0⟩ := open_pasts (hval 0 22 v0 rfl rfl) h0 hw0
  obtain ⟨a1, rfl, rfl, rfl, w1⟩ := open_int Try.underlying5 (hval 1 5 v1 rfl rfl) h1
  clear hA0 hval0
  simp only [List.append_nil] at hW'
  refine (walk W v0 a0 a1 w0 w1).mono fun e W' ⟨he, hg⟩ => ?_
  subst he
  exact ⟨_, rfl, ⟨_, _, _, [], (p0 ++ ([] ++ [])), [], hW', (trodAll_cons_mk (shut_bool Try.underlying4 _) trodAll_mk0), (trodAll_cons_mk (Below.trod laidD (by kernel_rfl) (of_decide_eq_true (by kernel_rfl)) k0 hg (fun x hx => hlt x (by simp [hx]))) (trodAll_cons_mk (Below.trod laidD (by kernel_rfl) (of_decide_eq_true (by kernel_rfl)) k1 hg (fun x hx => (nomatch hx))) trodAll_mk0)), rfl,
    hg.frame _, fun h => by cases h⟩⟩
theorem over : Rows.histTurnedRow.holds Try.pinned (OpenSpec.ofChange Rows.histTurnedSpec) :=
  OpenClaim.holds_of_wide 5 Try.f5 rfl rfl rfl rfl rfl rfl rfl ⟨rfl, rfl, rfl, rfl, rfl⟩ rfl rfl rfl rfl rfl (by kernel_rfl) Try.func5 (by kernel_rfl)
    (of_decide_eq_true (by kernel_rfl)) (by unfold Func.isWrapper; first | (rw [if_pos (by decide +kernel)]; kernel_rfl) | (rw [if_neg (by decide +kernel)]; exact ⟨rfl, rfl⟩))
    (fun os started H enc _ => lifted os started H enc)
theorem proved : Rows.HistTurnedSaid :=
  over
#print axioms proved
end Go.Proofs.Ytdlllnkcjfpajaa.histTurned
