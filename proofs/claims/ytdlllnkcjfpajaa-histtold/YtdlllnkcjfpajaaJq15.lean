/-
  Proved here: circle. Proved here: Check.
-/
import Derived.Test.YtdlllnkcjfpajaaJq14
namespace Go.Proofs.Ytdlllnkcjfpajaa
open Go.ChangeShapes Go.WideShapes Go.ChangeAt Go.RowKit
set_option linter.unusedVariables false
set_option linter.unusedSimpArgs false
set_option maxRecDepth 20000
open Relation
def cl (n : Nat) (fd : Int × Int → Option Value) (left : Int × Int → Bool) (j : Nat) : Nat := (List.range n).countP fun (a : Nat) => (fd ((a : Int), (j : Int))).isSome && !left ((a : Int), (j : Int))
theorem cl_le {n : Nat} {fd : Int × Int → Option Value} {left : Int × Int → Bool} {j : Nat} : cl n fd left j ≤ n := by
  have := List.countP_le_length (l := List.range n) (p := fun (a : Nat) => (fd ((a : Int), (j : Int))).isSome && !left ((a : Int), (j : Int)))
  unfold cl; simpa using this
theorem cl_step {n : Nat} {fd : Int × Int → Option Value} {left : Int × Int → Bool} {i j : Nat} (hi : i < n) (hl : left ((i : Int), (j : Int)) = true) (hf : (fd ((i : Int), (j : Int))).isSome = true) (j' : Nat) :
    cl n fd (fun y => left y && !decide (y = ((i : Int), (j : Int)))) j' = if j' = j then cl n fd left j + 1 else cl n fd left j' := by
  by_cases e : j' = j
  · subst e
    rw [if_pos rfl]
    unfold cl
    refine countP_flip (i := i) ?_ ?_ ?_ (List.range n) List.nodup_range (List.mem_range.2 hi)
    · simp [hl]
    · simp [hf]
    · intro a ha
      have : ¬ (a : Int) = (i : Int) := by omega
      simp [this]
  · rw [if_neg e]
    unfold cl
    refine List.countP_congr fun a _ => ?_
    have : ¬ (j' : Int) = (j : Int) := by omega
    simp [this]
structure GSt (w7 : World) (ib fb : Nat) (w : World) (v : Value) (ks W : List Int) : Prop where
  row : Row w ib (ks.map (Value.int .i64)).toArray 3
  nums : GI.Nums w (ib + 1) v W
  sep : ∀ g, v.ownBlock = some g → g < fb ∨ w7.heap.size ≤ g
  off : Off (fun k => ib ≤ k ∧ k < fb) w7 w
theorem GSt.put {w7 w : World} {ib fb : Nat} {v : Value} {ks W : List Int} (h : GSt w7 ib fb w v ks W) (hf : ib < fb) (j : Nat) (c : Int) : GSt w7 ib fb (w.setCell ⟨ib, j, none⟩ (.int .i64 c)) v (ks.set j c) W := by
  have o : Off (· = ib) w (w.setCell ⟨ib, j, none⟩ (.int .i64 c)) := Off.of_setCell _ _ _ rfl
  refine ⟨?_, h.nums.off o (fun k hk e => by have := (h.nums.lt k hk).1; omega), h.sep, h.off.trans o (fun k e => Or.inl ⟨by omega, by omega⟩)⟩
  have := row_set h.row j (.int .i64 c)
  rw [List.setIfInBounds_toArray, ← List.map_set] at this
  exact this
theorem GSt.below {w7 w w' : World} {ib fb : Nat} {v : Value} {ks W : List Int} (h : GSt w7 ib fb w v ks W) (hb : Below w.heap.size w w') : GSt w7 ib fb w' v ks W :=
  ⟨h.row.below hb h.row.lt, h.nums.off (Off.of_below (F := fun _ => False) hb) (fun _ _ q => q), h.sep, h.off.trans (Off.of_below (F := fun _ => False) hb) (fun _ q => q.elim)⟩
theorem GSt.snoc {w7 w : World} {ib fb : Nat} {v : Value} {ks W : List Int} (h : GSt w7 ib fb w v ks W) (hn : W.length ≤ 1000000) (ty : TypeId) (Z : Nat) (x : Int) (hZ : Row w Z #[.int .i64 x] 3) :
    ∃ v' w', (Builtin.append_ #[103, 103] ty #[v, .slice (some ⟨Z, 0, none⟩) 1 1]).run Try.prog w = .ok v' w' ∧ GSt w7 ib fb w' v' ks (W ++ [x]) := by
  obtain ⟨v', w', hr, h1, h2, h3⟩ := h.nums.snoc ty Z x hZ h.row.lt hn
  have Ou : Off (fun k => v.ownBlock = some k) w w' := Off.of_grown h2 (fun k e => e)
  refine ⟨v', w', hr, h.row.off Ou (fun e => by have := (h.nums.lt ib e).1; omega), h1, fun g hg => ?_, h.off.trans Ou (fun k hk => ?_)⟩
  · rcases h3 with h3 | h3
    · exact h.sep g (by rw [← h3]; exact hg)
    · rw [h3] at hg
      cases hg
      exact Or.inr h.off.size
  · have h4 := (h.nums.lt k hk).1
    rcases h.sep k hk with q | q
    · exact Or.inl ⟨by omega, q⟩
    · exact Or.inr q
theorem GI.Nums.cell_off {B : Nat → Prop} {w w' : World} {base : Nat} {a : Addr} {n cap m : Nat} {xs : List Int} {u : Value} (h : GI.Nums w base (.slice (some a) n cap) xs) (ho : Off B w w') (hB : ∀ k, base ≤ k → k < w.heap.size → ¬ B k) (hc : w.cell? (a.add m) = some u) : w'.cell? (a.add m) = some u := by
  have hl := h.lt a.block rfl
  rw [← hc]
  have e : (a.add m).block = a.block := by unfold Addr.add; split <;> rfl
  exact World.cell?_of_block (w := w) (by rw [e]; exact ho.block a.block hl.2 (hB _ hl.1 hl.2))
theorem FAt.off2 {B : Nat → Prop} {w w' : World} {fb : Nat} {us : List Value} {X : Nat → List Int} (h : FAt w (fb + 1) fb us X) (ho : Off B w w') (hB : ∀ j, fb ≤ j → j < w.heap.size → ¬ B j) : FAt w' (fb + 1) fb us X where
  row := h.row.off ho (hB _ (Nat.le_refl _) h.row.lt)
  lt := h.lt
  nums a u hu := (h.nums a u hu).off ho (fun b hb => hB _ (by have := ((h.nums a u hu).lt b hb).1; omega) ((h.nums a u hu).lt b hb).2)
  apart := h.apart
def CirI (hs : List Hm) : Prop := ∃ x : Nat, TransGen (fun a b : Nat => DepI hs ((a : Int), (b : Int))) x x
set_option maxHeartbeats 8000000 in
theorem circle_any {w : World} {g mw mc md mp : Nat} {lv : Value} {hs : List Hm} {f : Int × Int → Option Value} {nw nc : Nat} {F : Int → Option Value} {G : Int → List Int} (h : HAt w g mw mc md mp lv hs f nw nc F G) {nd : Nat} (hd : SMp w md nd (DepI hs)) :
    Calls Try.prog 22 #[.pointer (some ⟨g, 0, none⟩)] w fun e w' => Says w (CirI hs) e w' := by
  obtain ⟨oa2, cap2, hlv, hcs2⟩ := h.list.hold
  subst hlv
  clear hcs2
  have HSAY : Hid (∀ b : Bool, (b = true ↔ CirI hs) → ∀ w', Below w.heap.size w w' → Says w (CirI hs) (.returned (.bool b)) w') := fun b q w' hb => ⟨b, rfl, q, hb⟩
  generalize Says w (CirI hs) = PP at HSAY ⊢
  obtain ⟨n2, HN2⟩ : ∃ n2, Hid (hs.length = n2) := ⟨_, rfl⟩
  have H122 : n2 ≤ 12 := by rw [← HN2.out]; exact h.few
  rw [HN2.out] at h
  have HH0 : Hid (HAt w g mw mc md mp (.slice oa2 n2 cap2) hs f nw nc F G) := h
  have HD0 : Hid (SMp w md nd (DepI hs)) := hd
  have c0 : w.cell? ⟨g, 0, none⟩ = some (.slice oa2 n2 cap2) := row_at h.row 0 _ rfl
  obtain ⟨inf, hi1, hi2, hi3, hi4⟩ := Ii.info_parts Ii.info3
  obtain ⟨C0, HC0⟩ : ∃ C0, Hid ((List.replicate n2 (Value.int .i64 0)).toArray = C0) := ⟨_, rfl⟩
  have hmk : (Instr.makeSlice 103 (.int .i64 (n2 : Int)) (.int .i64 (n2 : Int))).run Try.prog w = .ok (.slice (some ⟨w.heap.size, 0, none⟩) n2 n2) (w.alloc (.cells C0 3)) := by
    have := run_makeSlice (P := Try.prog) (w := w) 103 3 inf (.int .i64 0) Try.underlying103 hi1 hi2 .i64 .i64 (n2 : Int) (n2 : Int) (by omega) (Int.le_refl _) (by rw [hi3]; simp; omega) (by rw [hi4]; omega) (by omega)
    rw [hi3] at this
    simp only [Int.toNat_natCast] at this
    rw [made_one _ rfl, HC0.out] at this
    exact this
  have b1 : Below w.heap.size w (w.alloc (.cells C0 3)) := (Below.refl _ _).alloc (Nat.le_refl _) _
  have h1 := h.below b1
  obtain ⟨fd, hd1, hd2⟩ := hd.below b1
  have HD2 : Hid (∀ s, (DepI hs s → fd s = some (.agg #[])) ∧ (¬ DepI hs s → fd s = none)) := hd2
  have HB1 : Hid (Below w.heap.size w (w.alloc (.cells C0 3))) := b1
  have I1 : Row (w.alloc (.cells C0 3)) w.heap.size ((List.replicate n2 (0 : Int)).map (Value.int .i64)).toArray 3 := by
    rw [List.map_replicate, HC0.out]; exact Row.new _ _ _
  clear h hd hd2 hi1 hi2 hi3 hi4
  go_enter Try.func22, Try.ntmps22
  go_upto_region 2 with fail
  clear hmk c0
  generalize hib : w.heap.size = ib at I1 HB1
  generalize w.alloc (.cells C0 3) = w1 at I1 h1 hd1 HB1 ⊢
  have HWM : Hid (w.heap.size = ib) := hib
  clear b1 hib
  have c3 : w1.cell? ⟨g, 3, none⟩ = some (.map (some md)) := row_at h1.row 3 _ rfl
  obtain ⟨w0, cnt0, hrun0, R0, hcn0, gi, si⟩ := KMap.range Try.underlying94 hd1
  have Oi : Off (fun _ => False) w1 w0 := Off.of_grown gi (fun k hk => by cases hk)
  have I0 := I1.off Oi (fun q => q)
  have B0 : Below w.heap.size w w0 := by rw [HWM.out]; exact below_offN HB1.out Oi (fun _ q => q.elim) (Nat.le_of_eq HWM.out.symm)
  have K0 : ∀ j, j < n2 → (List.replicate n2 (0 : Int))[j]? = some (cl n2 fd (fun s => (fd s).isSome) j : Int) := fun j hj => by
    have : cl n2 fd (fun s => (fd s).isSome) j = 0 := by
      unfold cl
      rw [List.countP_eq_zero]
      intro a _
      show ¬ ((fd ((a : Int), (j : Int))).isSome && !(fd ((a : Int), (j : Int))).isSome) = true
      cases (fd ((a : Int), (j : Int))).isSome <;> simp
    rw [this]; simp [hj]
  have L0 : (List.replicate n2 (0 : Int)).length = n2 := List.length_replicate
  have HRL : Hid (ib < w1.heap.size) := I1.lt
  generalize hr : w1.heap.size = r at R0 hrun0 HRL
  go_upto_region 3 with fail
  clear hrun0 c3 gi si h1 hd1 hr I1 HB1 Oi hcn0
  go_loopw [24] (fun _ wr => ∃ (left : Int × Int → Bool) (cnt : Nat) (ks : List Int), KRng E105 wr md r nd fd left cnt ∧ Row wr ib (ks.map (Value.int .i64)).toArray 3 ∧ ks.length = n2 ∧ (∀ j, j < n2 → ks[j]? = some (cl n2 fd left j : Int)) ∧ Below w.heap.size w wr) (fun _ wr => wr.rangeLeft md r)
  case atStart => exact ⟨_, cnt0, _, R0, I0, L0, K0, B0⟩
  case round =>
    clear R0 I0 L0 K0 B0
    obtain ⟨left, cnt, ks, Rk, hI, hkl, hK, Bw⟩ := hrel
    have hle := Rk.left_eq
    rcases Rk.next with ⟨c0, hl0, hnx⟩ | ⟨s, vv, w2, cnt', hy, hlf, hfy, hnx, Rk', hlt, gk, sk', hen⟩
    · have hz : ∀ j, j < n2 → ks[j]? = some (ahd n2 (fun a j => (fd ((a : Int), (j : Int))).isSome) [] 0 0 [] j : Int) := fun j hj => by
        rw [hK j hj]
        congr 2
        unfold cl ahd
        refine List.countP_congr fun a ha => ?_
        have := hl0 ((a : Int), (j : Int)) (stepok_of (by have := List.mem_range.1 ha; omega) (by omega))
        simp [this]
      obtain ⟨d, HD⟩ : ∃ d : Nat → Nat → Bool, Hid ((fun (a j : Nat) => (fd ((a : Int), (j : Int))).isSome) = d) := ⟨_, rfl⟩
      rw [HD.out] at hz
      have HR : Hid (∀ a b : Nat, DepI hs ((a : Int), (b : Int)) ↔ (a < n2 ∧ b < n2 ∧ d a b = true)) := fun a b => by
        rw [← HD.out]
        refine ⟨fun q => ⟨?_, ?_, ?_⟩, fun q => ?_⟩
        · obtain ⟨i', j', e, hi, _⟩ := q.nat
          have := congrArg Prod.fst e; simp at this; have := HN2.out; omega
        · obtain ⟨i', j', e, _, hj⟩ := q.nat
          have := congrArg Prod.snd e; simp at this; have := HN2.out; omega
        · show (fd ((a : Int), (b : Int))).isSome = true
          rw [(HD2.out _).1 q]; rfl
        · refine Classical.byContradiction fun hno => ?_
          have := q.2.2
          have q2 : (fd ((a : Int), (b : Int))).isSome = true := this
          rw [(HD2.out _).2 hno] at q2; cases q2
      have hg0 : GSt wr ib wr.heap.size wr (.slice none 0 0) ks [] := ⟨hI, GI.Nums.nil _ _, (fun g hg => by cases hg), Off.refl _ _⟩
      have HZ : Hid (∀ j, j < n2 → ks[j]? = some (ahd n2 d [] 0 0 [] j : Int)) := hz
      have HBW : Hid (Below w.heap.size w wr) := Bw
      rename World => wo
      have z1 : ∀ x ∈ ([] : List Int), ∃ j : Nat, x = j ∧ j < 0 := fun x hx => by simp at hx
      have z2 : ([] : List Int).Nodup := List.nodup_nil
      have z3 : ∀ j : Nat, j < 0 → ((j : Int) ∈ ([] : List Int) ↔ ks[j]? = some 0) := fun j hj => by omega
      clear hK hl0 Rk hI Bw hle hz
      have HKL : Hid (ks.length = n2) := hkl
      have HIL : Hid (ib < wo.heap.size) := hg0.row.lt
      clear hkl
      go_upto_region 8 with fail
      clear hnx
      go_loopw [5, 36] (fun p q wr => ∃ (v : Value) (m : Nat) (W : List Int), v = p ∧ q = .int .i64 (m : Int) ∧ m ≤ n2 ∧ GSt wo ib wo.heap.size wr v ks W ∧ (∀ x ∈ W, ∃ j : Nat, x = j ∧ j < m) ∧ W.Nodup ∧ (∀ j : Nat, j < m → ((j : Int) ∈ W ↔ ks[j]? = some 0))) (fun p q _ => n2 - (intOf q).toNat)
      case atStart => exact ⟨_, 0, [], rfl, rfl, Nat.zero_le _, hg0, z1, z2, z3⟩
      case round =>
        clear hg0 z1 z2 z3
        rename World => wl
        obtain ⟨v, m, W, rfl, rfl, hm, hg, y1, y2, y3⟩ := hrel
        have Y1 : Hid (∀ x ∈ W, ∃ j : Nat, x = j ∧ j < m) := y1
        have Y2 : Hid W.Nodup := y2
        have Y3 : Hid (∀ j : Nat, j < m → ((j : Int) ∈ W ↔ ks[j]? = some 0)) := y3
        clear y1 y2 y3
        have hWl : W.length ≤ n2 := by
          have h2 : W.length ≤ ((List.range n2).map fun (k : Nat) => (k : Int)).length := nodup_le Y2.out (fun b hb => by
            obtain ⟨j, rfl, hj⟩ := Y1.out b hb
            exact List.mem_map.2 ⟨j, List.mem_range.2 (by omega), rfl⟩)
          simpa using h2
        by_cases hlt : m < n2
        · have hlt' : (m : Int) < (n2 : Int) := by omega
          have m3 : (0 : Int) ≤ (m : Int) := by omega
          have hkm := HZ.out m hlt
          have cI : wl.cell? ⟨ib, m, none⟩ = some (.int .i64 (ahd n2 d [] 0 0 [] m : Int)) := by
            rw [cell_of_row _ _ _ _ _ _ hg.row, List.getElem?_toArray, List.getElem?_map, hkm]; rfl
          obtain ⟨c, HC⟩ : ∃ c, Hid (ahd n2 d [] 0 0 [] m = c) := ⟨_, rfl⟩
          rw [HC.out] at cI hkm
          have HKM : Hid (ks[m]? = some (c : Int)) := hkm
          have HG : Hid (GSt wo ib wo.heap.size wl v ks W) := hg
          clear hkm hg
          by_cases hc : c = 0
          · subst hc
            have rZ : Row (wl.alloc (.cells #[.int .i64 (m : Int)] 3)) wl.heap.size #[.int .i64 (m : Int)] 3 := Row.new wl _ _
            have b4 : Below wl.heap.size wl (wl.alloc (.cells #[.int .i64 (m : Int)] 3)) := (Below.refl _ _).alloc (Nat.le_refl _) _
            have HG4 : Hid (GSt wo ib wo.heap.size (wl.alloc (.cells #[.int .i64 (m : Int)] 3)) v ks W) := HG.out.below b4
            have HAP : Hid (∀ ty, ∃ v' w', (Builtin.append_ #[103, 103] ty #[v, .slice (some ⟨wl.heap.size, 0, none⟩) 1 1]).run Try.prog (wl.alloc (.cells #[.int .i64 (m : Int)] 3)) = .ok v' w' ∧ GSt wo ib wo.heap.size w' v' ks (W ++ [(m : Int)])) := fun ty => HG4.out.snoc (by omega) ty wl.heap.size (m : Int) rZ
            clear rZ b4
            go_wp2_with (
              refine Ii.wpList_copy rfl (.tmp 43) (.tmp 45) 103 rfl v (.slice (some ⟨wl.heap.size, 0, none⟩) 1 1) rfl rfl HAP.out ?_
              clear cI HAP HG4
              generalize wl.alloc (.cells #[.int .i64 (m : Int)] 3) = w4
              intro v5 w5 hT)
            go_roundw
            case rel => exact ⟨v5, m + 1, W ++ [(m : Int)], rfl, by go_num, by omega, hT, fun x hx => by
              rcases List.mem_append.1 hx with hx | hx
              · obtain ⟨j, e, hj⟩ := Y1.out x hx; exact ⟨j, e, by omega⟩
              · simp at hx; exact ⟨m, hx, by omega⟩, List.nodup_append.2 ⟨Y2.out, by simp, fun x hx y hy => by
                simp at hy; subst hy
                obtain ⟨j, e, hj⟩ := Y1.out x hx
                omega⟩, fun j hj => by
                rw [List.mem_append]
                by_cases e : j = m
                · subst e; simp; exact HKM.out
                · rw [← Y3.out j (by omega)]; simp; intro q; omega⟩
            case measure => simp [intOf]; omega
          · have hceq : ((c : Int) == 0) = false := by simp; omega
            have hcne : ¬ (c : Int) = 0 := by omega
            go_wp2
            go_roundw
            case rel => exact ⟨v, m + 1, W, rfl, by go_num, by omega, HG.out, fun x hx => by
              obtain ⟨j, e, hj⟩ := Y1.out x hx; exact ⟨j, e, by omega⟩, Y2.out, fun j hj => by
                by_cases e : j = m
                · subst e
                  refine ⟨fun q => ?_, fun q => ?_⟩
                  · obtain ⟨j', e', hj'⟩ := Y1.out _ q; omega
                  · rw [HKM.out] at q; have := Option.some.inj q; omega
                · exact Y3.out j (by omega)⟩
            case measure => simp [intOf]; omega
        · have hlt' : ¬ (m : Int) < (n2 : Int) := by omega
          obtain rfl : m = n2 := by omega
          have Bl : Below w.heap.size w wl := below_off HBW.out hg.off (fun k e => by rw [HWM.out]; exact e.1)
          have hfol := followers_any (HH0.out.below Bl) (HD0.out.below Bl)
          have HFF : Hid (∀ e w', Folls wl hs.length (DepI hs) e w' → ∃ fb us X, e = .returned (.slice (some ⟨fb, 0, none⟩) m m) ∧ us.length = m ∧ FAt w' (fb + 1) fb us X ∧ FolX m (DepI hs) X ∧ Below wl.heap.size wl w' ∧ wl.heap.size ≤ fb) := fun e w' ⟨fb, us, X, q1, q2, q3, q4, q5, q6⟩ => by rw [HN2.out] at q1 q2 q4; exact ⟨fb, us, X, q1, q2, q3, q4, q5, q6⟩
          have HG : Hid (GSt wo ib wo.heap.size wl v ks W) := hg
          have HBL : Hid (Below w.heap.size w wl) := Bl
          have HKH : Hid (Kahn m d ks W 0 0 []) := ⟨HKL.out, fun j hj => by
              rw [HZ.out j hj]; unfold ahd; simp, fun j hj => Y3.out j hj, Y2.out, Y1.out, fun q j a hq ha hda => by
              have hjn : j < m := by obtain ⟨j', e, hj'⟩ := Y1.out _ (List.mem_of_getElem? hq); omega
              have h0 := (Y3.out j hjn).1 (List.mem_of_getElem? hq)
              rw [HZ.out j hjn] at h0
              have h1 : ahd m d [] 0 0 [] j = 0 := by have := Option.some.inj h0; omega
              unfold ahd at h1
              rw [List.countP_eq_zero] at h1
              have := h1 a (List.mem_range.2 ha)
              simp [hda] at this⟩
          clear Bl hg
          generalize Folls wl hs.length (DepI hs) = PF at hfol HFF
          go_upto_region 14 with (go_at_call 47; refine hfol.mono ?_; clear hfol; intro e w7 hq; obtain ⟨fb, us, X, he, hus, hF7, hX7, hb7, hlo⟩ := HFF.out _ _ hq; obtain rfl := he; clear hq; have HUS : Hid (us.length = m) := hus; have HF7 : Hid (FAt w7 (fb + 1) fb us X) := hF7; have HX7 : Hid (FolX m (DepI hs) X) := hX7; have HB7 : Hid (Below wl.heap.size wl w7) := hb7; have HLO : Hid (wl.heap.size ≤ fb) := hlo; clear hus hF7 hX7 hb7 hlo)
          have hib : ib < fb := by have := HG.out.row.lt; have := HLO.out; omega
          have hg7 : GSt w7 ib fb w7 v ks W := ⟨HG.out.row.below HB7.out HG.out.row.lt, HG.out.nums.off (Off.of_below (F := fun _ => False) HB7.out) (fun _ _ q => q), fun g hg => Or.inl (by have := (HG.out.nums.lt g hg).2; have := HLO.out; omega), Off.refl _ _⟩
          have hk7 := HKH.out
          have HW7 : Hid (Below w.heap.size w w7) := below_trans HBL.out HB7.out
          clear hlt'
          go_upto_region 15 with fail
          go_loopw [5, 9] (fun p q wr => ∃ (v : Value) (k : Nat) (ks W : List Int), v = p ∧ q = .int .i64 (k : Int) ∧ GSt w7 ib fb wr v ks W ∧ Kahn m d ks W k 0 [] ∧ k ≤ W.length) (fun p q _ => 13 - (intOf q).toNat)
          case atStart => exact ⟨v, 0, ks, W, rfl, rfl, hg7, hk7, Nat.zero_le _⟩
          case round =>
            clear hg7 hk7 HKH HG
            clear Y1 Y2 Y3 hWl HZ HKL
            rename World => wx
            obtain ⟨v, k, ks, W, rfl, rfl, hg, hk, hkl⟩ := hrel
            obtain ⟨oav, capv, hv, hcv⟩ := hg.nums.hold
            have hfew := hk.few
            obtain ⟨lw, HLW⟩ : ∃ lw, Hid (W.length = lw) := ⟨_, rfl⟩
            rw [HLW.out] at hv hfew hcv hkl
            subst hv
            have Bx : Below w.heap.size w wx := below_off HW7.out hg.off (fun k e => by rw [HWM.out]; exact e.1)
            by_cases hlt : k < lw
            · have hlt' : (k : Int) < (lw : Int) := by omega
              have k3 : (0 : Int) ≤ (k : Int) := by omega
              obtain ⟨av, x0, rfl, hWk, hcell⟩ := hcv k hlt
              obtain ⟨i, rfl, hi⟩ := hk.mem x0 (List.mem_of_getElem? hWk)
              obtain ⟨ui, hui⟩ : ∃ ui, us[i]? = some ui := ⟨_, List.getElem?_eq_getElem (by rw [HUS.out]; exact hi)⟩
              have hNB : ∀ j, fb ≤ j → j < w7.heap.size → ¬ (ib ≤ j ∧ j < fb) := fun j h1 _ h3 => by omega
              have hFx := HF7.out.off2 hg.off hNB
              have hcu : wx.cell? ⟨fb, i, none⟩ = some ui := by
                rw [cell_of_row _ _ _ _ _ _ hFx.row, List.getElem?_toArray]; exact hui
              have hnu := HF7.out.nums i ui hui
              obtain ⟨obi, capi, hvi, hcx⟩ := hnu.hold
              obtain ⟨ln, HLN⟩ : ∃ ln, Hid ((X i).length = ln) := ⟨_, rfl⟩
              have hnl : ln ≤ m := by
                rw [← HLN.out]
                have h2 : (X i).length ≤ ((List.range m).map fun (k : Nat) => (k : Int)).length := nodup_le (HX7.out i hi).1 (fun b hb => by
                  obtain ⟨i', j', e, _, hj'⟩ := (((HX7.out i hi).2 b).1 hb).nat
                  have e2 : b = (j' : Int) := by have := congrArg Prod.snd e; exact this
                  rw [e2]
                  exact List.mem_map.2 ⟨j', List.mem_range.2 (by rw [← HN2.out]; exact hj'), rfl⟩)
                simpa using h2
              rw [HLN.out] at hvi hcx
              subst hvi
              have i1 : (i : Int) < (m : Int) := by omega
              have i3 : (0 : Int) ≤ (i : Int) := by omega
              have HCX : Hid (∀ j, j < ln → ∃ (a : Addr) (x : Int), obi = some a ∧ (X i)[j]? = some x ∧ w7.cell? (a.add j) = some (.int .i64 x)) := hcx
              have HNU : Hid (GI.Nums w7 (fb + 1) (.slice obi ln capi) (X i)) := hnu
              have HWK : Hid (W[k]? = some (i : Int)) := hWk
              have HGX : Hid (GSt w7 ib fb wx (.slice (some av) lw capv) ks W) := hg
              have HKX : Hid (Kahn m d ks W k i ((X i).take 0)) := hk.begin i
              clear hcx hWk hg hk hFx hui hnu hcv hNB Bx
              go_upto_region 18 with fail
              clear hcell hcu
              have g0 := HGX.out
              have q0 := HKX.out
              have q1 := HWK.out
              go_loopw [5, 64] (fun p q wr => ∃ (v : Value) (n : Nat) (ks2 W2 : List Int), v = p ∧ q = .int .i64 (n : Int) ∧ n ≤ ln ∧ GSt w7 ib fb wr v ks2 W2 ∧ Kahn m d ks2 W2 k i ((X i).take n) ∧ W2[k]? = some (i : Int)) (fun p q _ => ln - (intOf q).toNat)
              case atStart => exact ⟨_, 0, ks, W, rfl, rfl, Nat.zero_le _, g0, q0, q1⟩
              case round =>
                clear g0 q0 q1
                rename World => wl2
                obtain ⟨v, n, ks2, W2, rfl, rfl, hn, hg, hk, hWk⟩ := hrel
                by_cases hnl2 : n < ln
                · have hnl' : (n : Int) < (ln : Int) := by omega
                  have n3 : (0 : Int) ≤ (n : Int) := by omega
                  obtain ⟨ai, x1, rfl, hxn, hcn0⟩ := HCX.out n hnl2
                  obtain ⟨j, rfl, hj⟩ : ∃ j : Nat, x1 = (j : Int) ∧ j < m := by
                    obtain ⟨i', j', e, _, hj'⟩ := (((HX7.out i hi).2 x1).1 (List.mem_of_getElem? hxn)).nat
                    exact ⟨j', by have := congrArg Prod.snd e; exact this, by rw [← HN2.out]; exact hj'⟩
                  have hcn : wl2.cell? (ai.add n) = some (.int .i64 (j : Int)) := HNU.out.cell_off hg.off (fun k h1 _ h3 => by omega) hcn0
                  have hdij : d i j = true := ((HR.out i j).1 (((HX7.out i hi).2 (j : Int)).1 (List.mem_of_getElem? hxn))).2.2
                  obtain ⟨c, hkc, hc1, hcm, hcz, hcnz⟩ := hk.step hWk hi hj hdij (nodup_take (HX7.out i hi).1 hxn)
                  have ht : (X i).take n ++ [(j : Int)] = (X i).take (n + 1) := by
                    obtain ⟨h1, h2⟩ := List.getElem?_eq_some_iff.1 hxn
                    rw [List.take_succ_eq_append_getElem h1, h2]
                  rw [ht] at hcz hcnz
                  have cI : wl2.cell? ⟨ib, j, none⟩ = some (.int .i64 c) := by
                    rw [cell_of_row _ _ _ _ _ _ hg.row, List.getElem?_toArray, List.getElem?_map, hkc]; rfl
                  have fzI : wl2.frozen? ⟨ib, j, none⟩ = false := row_frozen hg.row j
                  have j1 : (j : Int) < (m : Int) := by omega
                  have j3 : (0 : Int) ≤ (j : Int) := by omega
                  have hwr : wrap64 (c - 1) = c - 1 := by unfold wrap64; omega
                  have HG5 : Hid (GSt w7 ib fb (wl2.setCell ⟨ib, j, none⟩ (.int .i64 (c - 1))) v (ks2.set j (c - 1)) W2) := hg.put hib j (c - 1)
                  have hI5 := HG5.out.row
                  have c5 : (wl2.setCell ⟨ib, j, none⟩ (.int .i64 (c - 1))).cell? ⟨ib, j, none⟩ = some (.int .i64 (c - 1)) := by
                    rw [cell_of_row _ _ _ _ _ _ hI5, List.getElem?_toArray, List.getElem?_map, List.getElem?_set_self (by rw [hk.klen]; exact hj)]; rfl
                  have HWK2 : Hid (W2[k]? = some (i : Int)) := hWk
                  have HW2L : Hid (W2.length ≤ 12) := by have := hk.few; show _ ≤ _; omega
                  clear hg hk hWk hcn0 hxn ht hI5 hkc
                  go_upto_region 21 with fail
                  generalize wl2.setCell ⟨ib, j, none⟩ (.int .i64 (c - 1)) = w5 at HG5 c5 ⊢
                  generalize c - 1 = e at HG5 c5 hcz hcnz hwr ⊢
                  clear cI fzI hwr hcn hc1 hcm
                  have HLT : Hid (n + 1 ≤ ln) := hnl2
                  by_cases hz : e = 0
                  · have HK5 : Hid (Kahn m d (ks2.set j e) (W2 ++ [(j : Int)]) k i ((X i).take (n + 1))) := hcz hz
                    clear hcz hcnz
                    have HW6 : Hid ((W2 ++ [(j : Int)])[k]? = some (i : Int)) := by
                      show _ = _
                      rw [List.getElem?_append_left (List.getElem?_eq_some_iff.1 HWK2.out).1]; exact HWK2.out
                    have rZ : Row (w5.alloc (.cells #[.int .i64 (j : Int)] 3)) w5.heap.size #[.int .i64 (j : Int)] 3 := Row.new w5 _ _
                    have b6 : Below w5.heap.size w5 (w5.alloc (.cells #[.int .i64 (j : Int)] 3)) := (Below.refl _ _).alloc (Nat.le_refl _) _
                    have HG6 : Hid (GSt w7 ib fb (w5.alloc (.cells #[.int .i64 (j : Int)] 3)) v (ks2.set j e) W2) := HG5.out.below b6
                    have HAP : Hid (∀ ty, ∃ v' w', (Builtin.append_ #[103, 103] ty #[v, .slice (some ⟨w5.heap.size, 0, none⟩) 1 1]).run Try.prog (w5.alloc (.cells #[.int .i64 (j : Int)] 3)) = .ok v' w' ∧ GSt w7 ib fb w' v' (ks2.set j e) (W2 ++ [(j : Int)])) := fun ty => HG6.out.snoc (by have := HW2L.out; omega) ty w5.heap.size (j : Int) rZ
                    clear rZ b6
                    subst hz
                    go_wp2_with (
                      refine Ii.wpList_copy rfl (.tmp 79) (.tmp 81) 103 rfl v (.slice (some ⟨w5.heap.size, 0, none⟩) 1 1) rfl rfl HAP.out ?_
                      clear c5 HAP HG6
                      generalize w5.alloc (.cells #[.int .i64 (j : Int)] 3) = w6
                      intro v8 w8 hT)
                    go_roundw
                    case rel => exact ⟨v8, n + 1, ks2.set j 0, W2 ++ [(j : Int)], rfl, by go_num, HLT.out, hT, HK5.out, HW6.out⟩
                    case measure => have := HLT.out; simp [intOf]; omega
                  · have HK5 : Hid (Kahn m d (ks2.set j e) W2 k i ((X i).take (n + 1))) := hcnz hz
                    have heq : (e == 0) = false := by simpa using hz
                    clear hcz hcnz
                    go_wp2
                    go_roundw
                    case rel => exact ⟨v, n + 1, ks2.set j e, W2, rfl, by go_num, HLT.out, HG5.out, HK5.out, HWK2.out⟩
                    case measure => have := HLT.out; simp [intOf]; omega
                · have hnl' : ¬ (n : Int) < (ln : Int) := by omega
                  have hall : (X i).take n = X i := List.take_of_length_le (by rw [HLN.out]; omega)
                  rw [hall] at hk
                  have hk2 := hk.next hWk (fun j hj hd => by
                    exact ((HX7.out i hi).2 (j : Int)).2 ((HR.out i j).2 ⟨hi, hj, hd⟩))
                  have hkW : k + 1 ≤ W2.length := (List.getElem?_eq_some_iff.1 hWk).1
                  have hk12 : k < 12 := by have := hk.few; omega
                  clear hk
                  go_wp2
                  go_roundw
                  case rel => exact ⟨v, k + 1, ks2, W2, rfl, by go_num, hg, hk2, hkW⟩
                  case measure => simp [intOf]; omega
            · have hlt' : ¬ (k : Int) < (lw : Int) := by omega
              have hdone := hk.done (by rw [HLW.out]; omega) (R := fun a b : Nat => DepI hs ((a : Int), (b : Int))) HR.out
              rw [HLW.out] at hdone
              have cg : wx.cell? ⟨g, 0, none⟩ = some (.slice oa2 m cap2) := row_at (HH0.out.row.below Bx HH0.out.row.lt) 0 _ rfl
              have HBX : Hid (Below w.heap.size w wx) := Bx
              clear hg hk hcv Bx
              by_cases hlm : lw < m
              · have hlm' : (lw : Int) < (m : Int) := by omega
                have hfin := HSAY.out true ⟨fun _ => hdone.1 hlm, fun _ => rfl⟩ wx HBX.out
                clear hdone
                go_wp2
                exact hfin
              · have hlm' : ¬ (lw : Int) < (m : Int) := by omega
                have hfin := HSAY.out false ⟨(fun q => by cases q), fun q => absurd (hdone.2 q) hlm⟩ wx HBX.out
                clear hdone
                go_wp2
                exact hfin
    · obtain ⟨hds, rfl⟩ := SMp.unit (hs := hs) HD2.out hfy
      obtain ⟨i, j, rfl, hi, hj⟩ := hds.nat
      replace hnx : ∀ ty, (Instr.next (.pointer (some ⟨r, 0, none⟩)) false ty).run Try.prog wr = .ok (.tuple #[.bool true, .agg #[.int .i64 (i : Int), .int .i64 (j : Int)], .agg #[]]) w2 := hnx
      replace hen : (Instr.entry (.pointer (some ⟨r, 0, none⟩))).run Try.prog w2 = .ok (.tuple #[.agg #[.int .i64 (i : Int), .int .i64 (j : Int)], .agg #[]]) w2 := hen
      obtain ⟨or1, hor1, hor2, hor3⟩ := Rk.range_is
      have Ork : Off (· = r) wr w2 := Off.of_grown gk (fun q hq => by cases hq; rfl)
      have hir : ib ≠ r := fun e => by have := hI; unfold Row at this; rw [e, hor1] at this; exact hor2 _ _ _ (Option.some.inj this)
      have hI2 := hI.off Ork hir
      have Bw2 := below_off Bw Ork (fun k e => by rw [e, HWM.out]; exact Nat.le_of_lt HRL.out)
      rw [HN2.out] at hi hj
      have HK : Hid (∀ j, j < n2 → ks[j]? = some (cl n2 fd left j : Int)) := hK
      have HCS : Hid (∀ j', cl n2 fd (fun y => left y && !decide (y = ((i : Int), (j : Int)))) j' = if j' = j then cl n2 fd left j + 1 else cl n2 fd left j') := fun j' => cl_step hi hlf (by rw [hfy]; rfl) j'
      have hkj := hK j hj
      clear hor1 hor2 hor3 Ork Bw sk' gk Rk hfy hlf hy hds hI hK
      obtain ⟨c, HC⟩ : ∃ c, Hid (cl n2 fd left j = c) := ⟨_, rfl⟩
      have hcb : c ≤ 12 := by rw [← HC.out]; have := cl_le (n := n2) (fd := fd) (left := left) (j := j); omega
      rw [HC.out] at hkj
      go_upto_region 5 with fail
      have rX : Row (w2.alloc (.cells #[.int .i64 (i : Int), .int .i64 (j : Int)] 105)) w2.heap.size #[.int .i64 (i : Int), .int .i64 (j : Int)] 105 := Row.new _ _ _
      have b3 : Below w2.heap.size w2 (w2.alloc (.cells #[.int .i64 (i : Int), .int .i64 (j : Int)] 105)) := (Below.refl _ _).alloc (Nat.le_refl _) _
      have hI3 := hI2.below b3 hI2.lt
      have Bw3 := below_trans Bw2 b3
      have Rk3 := Rk'.off (Off.of_below (F := fun _ => False) b3) (fun q => q) (fun q => q)
      generalize w2.alloc (.cells #[.int .i64 (i : Int), .int .i64 (j : Int)] 105) = w3 at rX hI3 Bw3 Rk3 ⊢
      generalize w2.heap.size = T at rX ⊢
      clear b3 Bw2 Rk' hI2 hnx hen
      have cT : w3.cell? ⟨T, 1, none⟩ = some (.int .i64 (j : Int)) := row_at rX 1 _ rfl
      have cI : w3.cell? ⟨ib, j, none⟩ = some (.int .i64 (c : Int)) := by
        rw [cell_of_row _ _ _ _ _ _ hI3, List.getElem?_toArray, List.getElem?_map, hkj]; rfl
      have fzI : w3.frozen? ⟨ib, j, none⟩ = false := row_frozen hI3 j
      have i1 : (j : Int) < (n2 : Int) := by omega
      have i3 : (0 : Int) ≤ (j : Int) := by omega
      have o4 : Off (· = ib) w3 (w3.setCell ⟨ib, j, none⟩ (.int .i64 ((c : Int) + 1))) := Off.of_setCell _ _ _ rfl
      have hI4 : Row (w3.setCell ⟨ib, j, none⟩ (.int .i64 ((c : Int) + 1))) ib ((ks.set j ((c : Int) + 1)).map (Value.int .i64)).toArray 3 := by
        have := row_set hI3 j (.int .i64 ((c : Int) + 1))
        rw [List.setIfInBounds_toArray, ← List.map_set] at this
        exact this
      have Rk4 := Rk3.off o4 (fun e => by obtain ⟨es, cl, hm⟩ := Rk3.map.is; have := hI3; unfold Row at this; rw [← e, hm] at this; cases this) (fun e => by obtain ⟨o1, ho1, ho2, _⟩ := Rk3.range_is; have := hI3; unfold Row at this; rw [← e, ho1] at this; exact ho2 _ _ _ (Option.some.inj this))
      have Bw4 := below_off Bw3 o4 (fun k e => by rw [e, HWM.out]; exact Nat.le_refl _)
      have hle4 := Rk4.left_eq
      have hkl4 : (ks.set j ((c : Int) + 1)).length = n2 := by rw [List.length_set]; exact hkl
      have hK4 : ∀ j', j' < n2 → (ks.set j ((c : Int) + 1))[j']? = some (cl n2 fd (fun y => left y && !decide (y = ((i : Int), (j : Int)))) j' : Int) := fun j' hj' => by
        rw [HCS.out j']
        by_cases e : j' = j
        · subst e
          rw [List.getElem?_set_self (by rw [hkl]; exact hj'), if_pos rfl, HC.out]; rfl
        · rw [List.getElem?_set_ne (fun q => e q.symm), if_neg e]; exact HK.out j' hj'
      have HK4 : Hid (∀ j', j' < n2 → (ks.set j ((c : Int) + 1))[j']? = some (cl n2 fd (fun y => left y && !decide (y = ((i : Int), (j : Int)))) j' : Int)) := hK4
      clear hI3 Rk3 Bw3 o4 rX hK4 hkj
      go_wp2
      go_roundw
      case rel => exact ⟨_, cnt', _, Rk4, hI4, hkl4, HK4.out, Bw4⟩
      case measure => rw [hle4, hle]; exact hlt
end Go.Proofs.Ytdlllnkcjfpajaa
namespace Go.Proofs.Ytdlllnkcjfpajaa
open Go.ChangeShapes Go.WideShapes Go.ChangeAt Go.RowKit
set_option linter.unusedVariables false
set_option linter.unusedSimpArgs false
set_option maxRecDepth 20000
def bitsH (a c i m : Bool) : Int := (if a then 1 else 0) + (if c then 2 else 0) + (if i then 4 else 0) + (if m then 8 else 0)
def ShownH (ps : List Hm) (x : Int) : Prop :=
  ∃ (hs : List Hm) (a c i m : Bool), hs.Perm (ps.filter fun h => h.p.dn) ∧ Uni hs ∧ x = bitsH a c i m ∧ (a = true ↔ AbI hs) ∧ (c = true ↔ CirI hs) ∧ (i = true ↔ InI hs) ∧ (m = true ↔ MisI hs)
def Checked (w : World) (ps : List Hm) (e : Ending) (w' : World) : Prop :=
  Below w.heap.size w w' ∧ ((isHF (ps.map Hm.p) [] = false ∧ e = .returned (.tuple #[.int .u8 0, .int .i64 1])) ∨ (isHF (ps.map Hm.p) [] = true ∧ ∃ x, e = .returned (.tuple #[.int .u8 x, .int .i64 0]) ∧ ShownH ps x))
set_option maxHeartbeats 8000000 in
theorem check_any {w : World} {v : Value} {ps : List Hm} (hh : Helds w v ps) (hn : ps.length ≤ 1000) (hf : (ps.filter fun h => h.p.dn).length ≤ 12) :
    Calls Try.prog 11 #[v] w fun e w' => Checked w ps e w' := by
  have hih := isHistory_any hh hn
  have HH : Hid (Helds w v ps) := hh
  have HNO : Hid (isHF (ps.map Hm.p) [] = false → ∀ w', Below w.heap.size w w' → Checked w ps (.returned (.tuple #[.int .u8 0, .int .i64 1])) w') := fun q w' hb => ⟨hb, Or.inl ⟨q, rfl⟩⟩
  have HYES : Hid (isHF (ps.map Hm.p) [] = true → ∀ (hs : List Hm) (a c i m : Bool) w', hs.Perm (ps.filter fun h => h.p.dn) → Uni hs → (a = true ↔ AbI hs) → (c = true ↔ CirI hs) → (i = true ↔ InI hs) → (m = true ↔ MisI hs) → Below w.heap.size w w' → ∀ x, x = bitsH a c i m → Checked w ps (.returned (.tuple #[.int .u8 x, .int .i64 0])) w') := fun q hs a c i m w' h1 h0 h2 h3 h4 h5 hb x hx => ⟨hb, Or.inr ⟨q, _, rfl, hs, a, c, i, m, h1, h0, hx, h2, h3, h4, h5⟩⟩
  generalize Checked w ps = PP at HNO HYES ⊢
  have HAP : Hid (isHF (ps.map Hm.p) [] = true → Apart2 ps) := fun q => (isHF_apart ps [] q).1
  obtain ⟨b, HB⟩ : ∃ b, Hid (isHF (ps.map Hm.p) [] = b) := ⟨_, rfl⟩
  rw [HB.out] at hih HNO HYES HAP
  clear hh
  cases b with
  | false =>
    go_enter Try.func11, Try.ntmps11
    go_wp2_with (go_at_call 19; refine hih.mono ?_; clear hih; rintro e w1 ⟨he, hb⟩; obtain rfl := he; have hfin := HNO.out rfl w1 hb; clear hb)
    exact hfin
  | true =>
    have hga : ∀ w1, Below w.heap.size w w1 → Calls Try.prog 20 #[v] w1 fun e w' => Gath w1 ps e w' := fun w1 hb => gather_any (HH.out.keep hb) hn hf (HAP.out rfl)
    have HGA : Hid (∀ w1, Below w.heap.size w w1 → Calls Try.prog 20 #[v] w1 fun e w' => Gath w1 ps e w') := hga
    clear hga
    go_enter Try.func11, Try.ntmps11
    go_upto_region 3 with (go_at_call 19; refine hih.mono ?_; clear hih; rintro e w1 ⟨he, hb⟩; obtain rfl := he; have hg := HGA.out w1 hb; have HB1 : Hid (Below w.heap.size w w1) := hb; clear hb)
    have HG : Hid (∀ e w', Gath w1 ps e w' → ∃ g mw mc md mp lv hs f nw nc F G nd np, e = .returned (.pointer (some ⟨g, 0, none⟩)) ∧ hs.Perm (ps.filter fun h => h.p.dn) ∧ HAt w' g mw mc md mp lv hs f nw nc F G ∧ SMp w' md nd (DepI hs) ∧ SMp w' mp np (PasI hs) ∧ Below w1.heap.size w1 w' ∧ nd ≤ 100000000 ∧ np ≤ 100000000) := fun e w' q => q
    generalize Gath w1 ps = GG at hg HG
    clear HGA
    go_upto_region 4 with (go_at_call 20; refine hg.mono ?_; clear hg; intro e w2 hq; obtain ⟨g, mw, mc, md, mp, lv, hs, f, nw, nc, F, G, nd, np, he, hpm, hA, hD, hP, hb2, hnd, hnp⟩ := HG.out _ _ hq; obtain rfl := he; clear hq; have HPM : Hid (hs.Perm (ps.filter fun h => h.p.dn)) := hpm; have HA : Hid (HAt w2 g mw mc md mp lv hs f nw nc F G) := hA; have HD : Hid (SMp w2 md nd (DepI hs)) := hD; have HP : Hid (SMp w2 mp np (PasI hs)) := hP; have HB2 : Hid (Below w.heap.size w w2) := below_trans HB1.out hb2; have HNP : Hid (np ≤ 100000000) := hnp; clear hpm hA hD hP hb2 hnd hnp)
    have HU : Hid (Uni hs) := HA.out.uni
    have h1 : Calls Try.prog 21 #[.pointer (some ⟨g, 0, none⟩)] w2 fun e w' => ∃ b : Bool, e = .returned (.bool b) ∧ (b = true ↔ AbI hs) ∧ Below w2.heap.size w2 w' := (aborted_any HA.out)
    have H2 : Hid (∀ w', Below w2.heap.size w2 w' → Calls Try.prog 22 #[.pointer (some ⟨g, 0, none⟩)] w' fun e w'' => ∃ b : Bool, e = .returned (.bool b) ∧ (b = true ↔ CirI hs) ∧ Below w'.heap.size w' w'') := fun w' hb => circle_any (HA.out.below hb) (HD.out.below hb)
    have H3 : Hid (∀ w', Below w2.heap.size w2 w' → Calls Try.prog 23 #[.pointer (some ⟨g, 0, none⟩)] w' fun e w'' => ∃ b : Bool, e = .returned (.bool b) ∧ (b = true ↔ InI hs) ∧ Below w'.heap.size w' w'') := fun w' hb => interfering_any (HA.out.below hb) (HD.out.below hb)
    have H4 : Hid (∀ w', Below w2.heap.size w2 w' → Calls Try.prog 24 #[.pointer (some ⟨g, 0, none⟩)] w' fun e w'' => ∃ b : Bool, e = .returned (.bool b) ∧ (b = true ↔ MisI hs) ∧ Below w'.heap.size w' w'') := fun w' hb => missed_any (HA.out.below hb) (HD.out.below hb) (HP.out.below hb) HNP.out
    go_wp2_with (first
      | (go_at_call 21; refine h1.mono ?_; clear h1; intro e w3 hq; obtain ⟨a, he, ha, hb3⟩ := hq; obtain rfl := he; have HAA : Hid (a = true ↔ AbI hs) := ha; have HB3 : Hid (Below w2.heap.size w2 w3) := hb3; have h2 := H2.out w3 hb3; clear ha hb3)
      | (go_at_call 22; refine h2.mono ?_; clear h2; intro e w4 hq; obtain ⟨c, he, ha, hb3⟩ := hq; obtain rfl := he; have HCC : Hid (c = true ↔ CirI hs) := ha; have HB4 : Hid (Below w2.heap.size w2 w4) := below_trans HB3.out hb3; have h3 := H3.out w4 HB4.out; clear ha hb3)
      | (go_at_call 23; refine h3.mono ?_; clear h3; intro e w5 hq; obtain ⟨i, he, ha, hb3⟩ := hq; obtain rfl := he; have HII : Hid (i = true ↔ InI hs) := ha; have HB5 : Hid (Below w2.heap.size w2 w5) := below_trans HB4.out hb3; have h4 := H4.out w5 HB5.out; clear ha hb3)
      | (go_at_call 24; refine h4.mono ?_; clear h4; intro e w6 hq; obtain ⟨m, he, ha, hb3⟩ := hq; obtain rfl := he; have HMM : Hid (m = true ↔ MisI hs) := ha; have HB6 : Hid (Below w2.heap.size w2 w6) := below_trans HB5.out hb3; clear ha hb3))
    all_goals
      have HBW : Hid (Below w.heap.size w w6) := below_trans HB2.out HB6.out
      clear HB1 HB2 HB3 HB4 HB5 HB6 H2 H3 H4 HA HD HP HNP HG HNO HAP HH
      cases a <;> cases c <;> cases i <;> cases m <;> first
        | contradiction
        | exact HYES.out (by simp) hs _ _ _ _ w6 HPM.out HU.out HAA.out HCC.out HII.out HMM.out HBW.out _ (by decide +kernel)
end Go.Proofs.Ytdlllnkcjfpajaa
