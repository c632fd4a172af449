/-
  Proved here: the document's May: whether all fields are zero that a record's kind hasn't.
-/
import Derived.Test.YtihjapfgllokgabRma
import Derived.Test.YtihjapfgllokgabQMh
namespace Go.Proofs.Ytihjapfgllokgab
open Go.ChangeShapes Go.WideShapes Go.ChangeAt Go.RowKit
set_option linter.unusedVariables false
set_option linter.unusedSimpArgs false
set_option maxRecDepth 20000

theorem empty_list : ByteArray.empty.toList = [] := by rw [ByteArray.toList_eq]; rfl
theorem equal31r (o p : O) (w : World) : (Op.equalIn 10000 35 (.agg o.arr) (.agg p.arr)).run Try.prog w = .ok (decide (o = p)) w := by
  obtain ⟨a, b, c, d, e, f⟩ := o
  obtain ⟨a', b', c', d', e', f'⟩ := p
  unfold O.arr
  go_simp
  have e1 : (f.toList = f'.toList) = (f = f') := propext ⟨bytes_inj, congrArg _⟩
  simp only [e1]
  by_cases h1 : a = a' <;> by_cases h2 : b = b' <;> by_cases h3 : c = c' <;> by_cases h4 : d = d' <;> by_cases h5 : e = e' <;> by_cases h6 : f = f' <;> simp [h1, h2, h3, h4, h5, h6]
theorem built31r : (Try.prog.built 35 []) = some O.zero.arr := by kernel_rfl
theorem equal33 (a b c d : Int) (w : World) : (Op.equalIn 10000 33 (.agg #[.int .u16 a, .int .u8 b]) (.agg #[.int .u16 c, .int .u8 d])).run Try.prog w = .ok (decide (a = c ∧ b = d)) w := by
  go_simp
  by_cases h1 : a = c <;> by_cases h2 : b = d <;> simp [h1, h2]
theorem equal24r (a c : Bool) (b d : Int) (w : World) : (Op.equalIn 10000 24 (.agg #[.bool a, .int .u16 b]) (.agg #[.bool c, .int .u16 d])).run Try.prog w = .ok (decide (a = c ∧ b = d)) w := by
  go_simp
  by_cases h1 : a = c <;> by_cases h2 : b = d <;> simp [h1, h2]
theorem built29r : (Try.prog.built 33 []) = some #[.int .u16 0, .int .u8 0] := by kernel_rfl
theorem built24r : (Try.prog.built 24 []) = some #[.bool false, .int .u16 0] := by kernel_rfl
def plainR (r : R) : Bool := decide (r.ts = 0) && (decide (r.pp = 0 ∧ r.ps = 0) && decide (r.delta = ByteArray.empty))
/-- Whether all fields are zero that the kind hasn't. -/
def rmayB (r : R) : Bool :=
  if r.kind = 1 then plainR r && (decide (r.slot = 0) && decide (r.old = O.zero))
  else if r.kind = 2 then !r.undo && (decide (r.img = zs 224) && (decide (r.slot = 0) && (decide (r.old = O.zero) && decide (r.delta.size ≤ 66))))
  else if r.kind = 3 then r.undo && (decide (r.img = zs 224) && (plainR r && (r.old.live && decide (r.old.delta.size ≤ 66))))
  else if r.kind = 4 ∨ r.kind = 5 then r.undo && (decide (r.img = zs 224) && (plainR r && decide (r.old = O.zero)))
  else if r.kind = 6 then decide (r.undo = false ∧ r.no = 0) && (decide (r.img = zs 224) && (decide (r.pp = 0 ∧ r.ps = 0) && (decide (r.delta = ByteArray.empty) && (decide (r.slot = 0) && decide (r.old = O.zero)))))
  else false
theorem R.eqs (a b : R) : a = b ↔ (a.kind = b.kind ∧ a.undo = b.undo ∧ a.no = b.no ∧ a.img = b.img ∧ a.ts = b.ts ∧ a.pp = b.pp ∧ a.ps = b.ps ∧ a.delta = b.delta ∧ a.slot = b.slot ∧ a.old = b.old) := by
  cases a; cases b; simp
theorem bool_eq {a b : Bool} (h : a = true ↔ b = true) : a = b := by cases a <;> cases b <;> simp_all
theorem rmay_is (r : R) : rmayB r = mayR r := by
  apply bool_eq
  have e0 : (ByteArray.empty).size = 0 := rfl
  have z0 : O.zero.delta = ByteArray.empty := rfl
  unfold rmayB mayR okK ownR
  by_cases k1 : r.kind = 1
  · simp only [k1, if_true, R.eqs, R.zero, plainR]
    simp
    constructor
    · rintro ⟨⟨h1, ⟨h2, h3⟩, h4⟩, h5, h6⟩
      refine ⟨⟨h1, h2, h3, h4, h5, h6⟩, by rw [h4, e0]; omega, by rw [h6, z0, e0]; omega⟩
    · rintro ⟨⟨h1, h2, h3, h4, h5, h6⟩, _, _⟩
      exact ⟨⟨h1, ⟨h2, h3⟩, h4⟩, h5, h6⟩
  by_cases k2 : r.kind = 2
  · simp only [k2, R.eqs, R.zero, plainR]
    simp
    constructor
    · rintro ⟨h1, h2, h3, h4, h5⟩
      refine ⟨⟨h1, h2, h3, h4⟩, h5, by rw [h4, z0, e0]; omega⟩
    · rintro ⟨⟨h1, h2, h3, h4⟩, h5, _⟩
      exact ⟨h1, h2, h3, h4, h5⟩
  by_cases k3 : r.kind = 3
  · simp only [k3, R.eqs, R.zero, plainR]
    simp
    constructor
    · rintro ⟨h1, h2, ⟨h3, ⟨h4, h5⟩, h6⟩, h7, h8⟩
      refine ⟨⟨h1, h2, h3, h4, h5, h6, ?_⟩, by rw [h6, e0]; omega, h8⟩
      rw [← h7]
    · rintro ⟨⟨h1, h2, h3, h4, h5, h6, h7⟩, _, h8⟩
      exact ⟨h1, h2, ⟨h3, ⟨h4, h5⟩, h6⟩, by rw [h7], h8⟩
  by_cases k4 : r.kind = 4
  · simp only [k4, R.eqs, R.zero, plainR]
    simp
    constructor
    · rintro ⟨h1, h2, ⟨h3, ⟨h4, h5⟩, h6⟩, h7⟩
      exact ⟨⟨h1, h2, h3, h4, h5, h6, h7⟩, by rw [h6, e0]; omega, by rw [h7, z0, e0]; omega⟩
    · rintro ⟨⟨h1, h2, h3, h4, h5, h6, h7⟩, _, _⟩
      exact ⟨h1, h2, ⟨h3, ⟨h4, h5⟩, h6⟩, h7⟩
  by_cases k5 : r.kind = 5
  · simp only [k5, R.eqs, R.zero, plainR]
    simp
    constructor
    · rintro ⟨h1, h2, ⟨h3, ⟨h4, h5⟩, h6⟩, h7⟩
      exact ⟨⟨h1, h2, h3, h4, h5, h6, h7⟩, by rw [h6, e0]; omega, by rw [h7, z0, e0]; omega⟩
    · rintro ⟨⟨h1, h2, h3, h4, h5, h6, h7⟩, _, _⟩
      exact ⟨h1, h2, ⟨h3, ⟨h4, h5⟩, h6⟩, h7⟩
  by_cases k6 : r.kind = 6
  · simp only [k6, R.eqs, R.zero, plainR]
    simp
    constructor
    · rintro ⟨⟨h1, h2⟩, h3, ⟨h4, h5⟩, h6, h7, h8⟩
      exact ⟨⟨h1, h2, h3, h4, h5, h6, h7, h8⟩, by rw [h6, e0]; omega, by rw [h8, z0, e0]; omega⟩
    · rintro ⟨⟨h1, h2, h3, h4, h5, h6, h7, h8⟩, _, _⟩
      exact ⟨⟨h1, h2⟩, h3, ⟨h4, h5⟩, h6, h7, h8⟩
  rw [if_neg k1, if_neg k2, if_neg k3, if_neg (by omega), if_neg k6]
  simp
  intro h1 h2
  omega
set_option maxRecDepth 20000 in
set_option maxHeartbeats 4000000 in
theorem rmayr_any (r : R) (w : World) (hf : r.Fits) :
    Calls Try.prog 34 #[.agg r.arr] w fun e w' => e = .returned (.bool (rmayB r)) ∧ Below w.heap.size w w' := by
  have y0 : Row (w.alloc (.cells r.arr 37)) w.heap.size r.arr 37 := Row.new _ _ _
  have yb : Below w.heap.size w (w.alloc (.cells r.arr 37)) := (Below.refl _ _).alloc (Nat.le_refl _) _
  have heq26 : ∀ w, (Op.equalIn 10000 26 (.agg (r.img.map (Value.int .u8)).toArray) (.agg (bs (zs 224)))).run Try.prog w = .ok (decide (r.img = zs 224)) w := fun w => equal26 r.img (zs 224) hf.len (zs_length _) w
  have heq31 : ∀ w, (Op.equalIn 10000 35 (.agg #[.bool r.old.live, .int .u16 r.old.page, .int .u32 r.old.ts, .int .u16 r.old.np, .int .u8 r.old.ns, .string r.old.delta]) (.agg O.zero.arr)).run Try.prog w = .ok (decide (r.old = O.zero)) w := fun w => equal31r r.old O.zero w
  have hdl := hf.delta
  have hol := hf.odelta
  unfold maxLen at hdl hol
  go_enter Try.func34, Try.ntmps34
  go_upto_region 1 with fail
  generalize w.alloc (.cells r.arr 37) = w1 at y0 yb ⊢
  have ir := World.rangeAt_of_block y0 3 224
  rw [R.imgCells r hf.len] at ir
  have c0 := row_at y0 0 _ (R.at0 r)
  have c1 := row_at y0 1 _ (R.at1 r)
  have c2 := row_at y0 2 _ (R.at2 r)
  have d0 := row_at y0 227 _ (R.atT r hf.len 0)
  have d1 := row_at y0 228 _ (R.atT r hf.len 1)
  have d2 := row_at y0 229 _ (R.atT r hf.len 2)
  have d3 := row_at y0 230 _ (R.atT r hf.len 3)
  have d4 := row_at y0 231 _ (R.atT r hf.len 4)
  have d5 := row_at y0 232 _ (R.atT r hf.len 5)
  have d6 := row_at y0 233 _ (R.atT r hf.len 6)
  have d7 := row_at y0 234 _ (R.atT r hf.len 7)
  have d8 := row_at y0 235 _ (R.atT r hf.len 8)
  have d9 := row_at y0 236 _ (R.atT r hf.len 9)
  have d10 := row_at y0 237 _ (R.atT r hf.len 10)
  go_upto_region 4 with (first
    | (refine wpList_load_mid rfl 26 (.tmp 7) rfl w.heap.size 3 rfl (r.img.map (Value.int .u8)) _ ir Try.underlying26 rfl (by rw [size26]; simp [hf.len]) ?_)
    | (refine build_none rfl 26 rfl _ built26 ?_)
    | (refine build_none rfl 35 rfl _ built31r ?_))
  have hb29 := built29r
  go_cut [6] from 18 to 31 (fun x wx => x = .bool (plainR r) ∧ wx = w1)
  case first =>
    by_cases h1 : r.ts = 0
    · have h1' : (r.ts == 0) = true := by simp [h1]
      by_cases h2 : r.pp = 0 ∧ r.ps = 0
      · obtain ⟨h2a, h2b⟩ := h2
        by_cases h3 : r.delta = ByteArray.empty
        · have HV : Hid (plainR r = true) := by show _ = _; unfold plainR; rw [decide_eq_true h1, decide_eq_true (⟨h2a, h2b⟩ : r.pp = 0 ∧ r.ps = 0), decide_eq_true h3]; rfl
          have h3' : r.delta.toList = [] := by rw [h3]; exact empty_list
          clear h3 h1
          go_wp2_with (refine build_none_g rfl 33 rfl _ hb29 ?_)
          go_meet
          exact ⟨by rw [HV.out], rfl⟩
        · have HV : Hid (plainR r = false) := by show _ = _; unfold plainR; rw [decide_eq_false h3]; simp
          have h3' : ¬ r.delta.toList = [] := fun q => h3 (bytes_inj (q.trans empty_list.symm))
          have h3'' : r.delta.toList.isEmpty = false := by cases hh : r.delta.toList with | nil => exact absurd hh h3' | cons a b => rfl
          clear h3 h1
          go_wp2_with (refine build_none_g rfl 33 rfl _ hb29 ?_)
          go_meet
          exact ⟨by rw [HV.out], rfl⟩
      · have HV : Hid (plainR r = false) := by show _ = _; unfold plainR; rw [decide_eq_false h2]; simp
        have h29 : ∀ w, (Op.equalIn 10000 33 (.agg #[.int .u16 r.pp, .int .u8 r.ps]) (.agg #[.int .u16 0, .int .u8 0])).run Try.prog w = .ok false w := fun w => by rw [equal33, decide_eq_false h2]
        clear h2 h1
        go_wp2_with (refine build_none_g rfl 33 rfl _ hb29 ?_)
        go_meet
        exact ⟨by rw [HV.out], rfl⟩
    · have HV : Hid (plainR r = false) := by show _ = _; unfold plainR; rw [decide_eq_false h1]; simp
      have h1' : (r.ts == 0) = false := by simp [h1]
      clear h1
      go_wp2
      go_meet
      exact ⟨by rw [HV.out], rfl⟩
  case rest =>
    obtain ⟨rfl, rfl⟩ := hcut
    have hb24 := built24r
    by_cases hk : r.kind = 1
    · skip
      have t1 : (r.kind == 1) = true := by simp [hk]
      cases h_plain : plainR r with
      | false =>
        have HV : Hid (rmayB r = false) := by show _ = _; unfold rmayB; rw [if_pos hk]; simp [h_plain]
        clear hk
        go_wp2_with (first
          | (refine build_none_g rfl 33 rfl _ hb29 ?_)
          | (refine build_none_g rfl 24 rfl _ hb24 ?_))
        go_ret
        exact ⟨by rw [HV.out]; rfl, yb⟩
      | true =>
        by_cases h_slot : r.slot = 0
        rotate_left
        · skip
          have s_slot : (r.slot == 0) = false := by simp [h_slot]
          have HV : Hid (rmayB r = false) := by show _ = _; unfold rmayB; rw [if_pos hk]; simp [h_plain, h_slot]
          clear h_slot
          clear hk
          go_wp2_with (first
            | (refine build_none_g rfl 33 rfl _ hb29 ?_)
            | (refine build_none_g rfl 24 rfl _ hb24 ?_))
          go_ret
          exact ⟨by rw [HV.out]; rfl, yb⟩
        · skip
          have s_slot : (r.slot == 0) = true := by simp [h_slot]
          cases h_old : decide (r.old = O.zero) with
          | false =>
            have HV : Hid (rmayB r = false) := by show _ = _; unfold rmayB; rw [if_pos hk]; simp [h_plain, h_slot, h_old]
            clear h_slot
            clear hk
            go_wp2_with (first
              | (refine build_none_g rfl 33 rfl _ hb29 ?_)
              | (refine build_none_g rfl 24 rfl _ hb24 ?_))
            go_ret
            exact ⟨by rw [HV.out]; rfl, yb⟩
          | true =>
            have HV : Hid (rmayB r = true) := by show _ = _; unfold rmayB; rw [if_pos hk]; simp [h_plain, h_slot, h_old]
            clear h_slot
            clear hk
            go_wp2_with (first
              | (refine build_none_g rfl 33 rfl _ hb29 ?_)
              | (refine build_none_g rfl 24 rfl _ hb24 ?_))
            go_ret
            exact ⟨by rw [HV.out]; rfl, yb⟩
    have nk1 := hk
    clear hk
    by_cases hk : r.kind = 2
    · skip
      have t1 : (r.kind == 1) = false := by simp; omega
      have t2 : (r.kind == 2) = true := by simp [hk]
      cases h_nundo : r.undo with
      | true =>
        have HV : Hid (rmayB r = false) := by show _ = _; unfold rmayB; rw [if_neg (by omega), if_pos hk]; simp [h_nundo]
        clear hk
        go_wp2_with (first
          | (refine build_none_g rfl 33 rfl _ hb29 ?_)
          | (refine build_none_g rfl 24 rfl _ hb24 ?_))
        go_ret
        exact ⟨by rw [HV.out]; rfl, yb⟩
      | false =>
        cases h_img : decide (r.img = zs 224) with
        | false =>
          have HV : Hid (rmayB r = false) := by show _ = _; unfold rmayB; rw [if_neg (by omega), if_pos hk]; simp [h_nundo, h_img]
          clear hk
          go_wp2_with (first
            | (refine build_none_g rfl 33 rfl _ hb29 ?_)
            | (refine build_none_g rfl 24 rfl _ hb24 ?_))
          go_ret
          exact ⟨by rw [HV.out]; rfl, yb⟩
        | true =>
          by_cases h_slot : r.slot = 0
          rotate_left
          · skip
            have s_slot : (r.slot == 0) = false := by simp [h_slot]
            have HV : Hid (rmayB r = false) := by show _ = _; unfold rmayB; rw [if_neg (by omega), if_pos hk]; simp [h_nundo, h_img, h_slot]
            clear h_slot
            clear hk
            go_wp2_with (first
              | (refine build_none_g rfl 33 rfl _ hb29 ?_)
              | (refine build_none_g rfl 24 rfl _ hb24 ?_))
            go_ret
            exact ⟨by rw [HV.out]; rfl, yb⟩
          · skip
            have s_slot : (r.slot == 0) = true := by simp [h_slot]
            cases h_old : decide (r.old = O.zero) with
            | false =>
              have HV : Hid (rmayB r = false) := by show _ = _; unfold rmayB; rw [if_neg (by omega), if_pos hk]; simp [h_nundo, h_img, h_slot, h_old]
              clear h_slot
              clear hk
              go_wp2_with (first
                | (refine build_none_g rfl 33 rfl _ hb29 ?_)
                | (refine build_none_g rfl 24 rfl _ hb24 ?_))
              go_ret
              exact ⟨by rw [HV.out]; rfl, yb⟩
            | true =>
              by_cases h_dsz : r.delta.size ≤ 66
              rotate_left
              · skip
                have s_dsz : ¬ (r.delta.size : Int) ≤ 66 := by omega
                have HV : Hid (rmayB r = false) := by show _ = _; unfold rmayB; rw [if_neg (by omega), if_pos hk]; simp [h_nundo, h_img, h_slot, h_old, h_dsz]
                clear h_slot h_dsz
                clear hk
                go_wp2_with (first
                  | (refine build_none_g rfl 33 rfl _ hb29 ?_)
                  | (refine build_none_g rfl 24 rfl _ hb24 ?_))
                go_ret
                exact ⟨by rw [HV.out]; rfl, yb⟩
              · skip
                have s_dsz : (r.delta.size : Int) ≤ 66 := by omega
                have HV : Hid (rmayB r = true) := by show _ = _; unfold rmayB; rw [if_neg (by omega), if_pos hk]; simp [h_nundo, h_img, h_slot, h_old, h_dsz]
                clear h_slot h_dsz
                clear hk
                go_wp2_with (first
                  | (refine build_none_g rfl 33 rfl _ hb29 ?_)
                  | (refine build_none_g rfl 24 rfl _ hb24 ?_))
                go_ret
                exact ⟨by rw [HV.out]; rfl, yb⟩
    have nk2 := hk
    clear hk
    by_cases hk : r.kind = 3
    · skip
      have t1 : (r.kind == 1) = false := by simp; omega
      have t2 : (r.kind == 2) = false := by simp; omega
      have t3 : (r.kind == 3) = true := by simp [hk]
      cases h_undo : r.undo with
      | false =>
        have HV : Hid (rmayB r = false) := by show _ = _; unfold rmayB; rw [if_neg (by omega), if_neg (by omega), if_pos hk]; simp [h_undo]
        clear hk
        go_wp2_with (first
          | (refine build_none_g rfl 33 rfl _ hb29 ?_)
          | (refine build_none_g rfl 24 rfl _ hb24 ?_))
        go_ret
        exact ⟨by rw [HV.out]; rfl, yb⟩
      | true =>
        cases h_img : decide (r.img = zs 224) with
        | false =>
          have HV : Hid (rmayB r = false) := by show _ = _; unfold rmayB; rw [if_neg (by omega), if_neg (by omega), if_pos hk]; simp [h_undo, h_img]
          clear hk
          go_wp2_with (first
            | (refine build_none_g rfl 33 rfl _ hb29 ?_)
            | (refine build_none_g rfl 24 rfl _ hb24 ?_))
          go_ret
          exact ⟨by rw [HV.out]; rfl, yb⟩
        | true =>
          cases h_plain : plainR r with
          | false =>
            have HV : Hid (rmayB r = false) := by show _ = _; unfold rmayB; rw [if_neg (by omega), if_neg (by omega), if_pos hk]; simp [h_undo, h_img, h_plain]
            clear hk
            go_wp2_with (first
              | (refine build_none_g rfl 33 rfl _ hb29 ?_)
              | (refine build_none_g rfl 24 rfl _ hb24 ?_))
            go_ret
            exact ⟨by rw [HV.out]; rfl, yb⟩
          | true =>
            cases h_live : r.old.live with
            | false =>
              have HV : Hid (rmayB r = false) := by show _ = _; unfold rmayB; rw [if_neg (by omega), if_neg (by omega), if_pos hk]; simp [h_undo, h_img, h_plain, h_live]
              clear hk
              go_wp2_with (first
                | (refine build_none_g rfl 33 rfl _ hb29 ?_)
                | (refine build_none_g rfl 24 rfl _ hb24 ?_))
              go_ret
              exact ⟨by rw [HV.out]; rfl, yb⟩
            | true =>
              by_cases h_osz : r.old.delta.size ≤ 66
              rotate_left
              · skip
                have s_osz : ¬ (r.old.delta.size : Int) ≤ 66 := by omega
                have HV : Hid (rmayB r = false) := by show _ = _; unfold rmayB; rw [if_neg (by omega), if_neg (by omega), if_pos hk]; simp [h_undo, h_img, h_plain, h_live, h_osz]
                clear h_osz
                clear hk
                go_wp2_with (first
                  | (refine build_none_g rfl 33 rfl _ hb29 ?_)
                  | (refine build_none_g rfl 24 rfl _ hb24 ?_))
                go_ret
                exact ⟨by rw [HV.out]; rfl, yb⟩
              · skip
                have s_osz : (r.old.delta.size : Int) ≤ 66 := by omega
                have HV : Hid (rmayB r = true) := by show _ = _; unfold rmayB; rw [if_neg (by omega), if_neg (by omega), if_pos hk]; simp [h_undo, h_img, h_plain, h_live, h_osz]
                clear h_osz
                clear hk
                go_wp2_with (first
                  | (refine build_none_g rfl 33 rfl _ hb29 ?_)
                  | (refine build_none_g rfl 24 rfl _ hb24 ?_))
                go_ret
                exact ⟨by rw [HV.out]; rfl, yb⟩
    have nk3 := hk
    clear hk
    by_cases hk : r.kind = 4
    · skip
      have t1 : (r.kind == 1) = false := by simp; omega
      have t2 : (r.kind == 2) = false := by simp; omega
      have t3 : (r.kind == 3) = false := by simp; omega
      have t4 : (r.kind == 4) = true := by simp [hk]
      cases h_undo : r.undo with
      | false =>
        have HV : Hid (rmayB r = false) := by show _ = _; unfold rmayB; rw [if_neg (by omega), if_neg (by omega), if_neg (by omega), if_pos (by omega)]; simp [h_undo]
        clear hk
        go_wp2_with (first
          | (refine build_none_g rfl 33 rfl _ hb29 ?_)
          | (refine build_none_g rfl 24 rfl _ hb24 ?_))
        go_ret
        exact ⟨by rw [HV.out]; rfl, yb⟩
      | true =>
        cases h_img : decide (r.img = zs 224) with
        | false =>
          have HV : Hid (rmayB r = false) := by show _ = _; unfold rmayB; rw [if_neg (by omega), if_neg (by omega), if_neg (by omega), if_pos (by omega)]; simp [h_undo, h_img]
          clear hk
          go_wp2_with (first
            | (refine build_none_g rfl 33 rfl _ hb29 ?_)
            | (refine build_none_g rfl 24 rfl _ hb24 ?_))
          go_ret
          exact ⟨by rw [HV.out]; rfl, yb⟩
        | true =>
          cases h_plain : plainR r with
          | false =>
            have HV : Hid (rmayB r = false) := by show _ = _; unfold rmayB; rw [if_neg (by omega), if_neg (by omega), if_neg (by omega), if_pos (by omega)]; simp [h_undo, h_img, h_plain]
            clear hk
            go_wp2_with (first
              | (refine build_none_g rfl 33 rfl _ hb29 ?_)
              | (refine build_none_g rfl 24 rfl _ hb24 ?_))
            go_ret
            exact ⟨by rw [HV.out]; rfl, yb⟩
          | true =>
            cases h_old : decide (r.old = O.zero) with
            | false =>
              have HV : Hid (rmayB r = false) := by show _ = _; unfold rmayB; rw [if_neg (by omega), if_neg (by omega), if_neg (by omega), if_pos (by omega)]; simp [h_undo, h_img, h_plain, h_old]
              clear hk
              go_wp2_with (first
                | (refine build_none_g rfl 33 rfl _ hb29 ?_)
                | (refine build_none_g rfl 24 rfl _ hb24 ?_))
              go_ret
              exact ⟨by rw [HV.out]; rfl, yb⟩
            | true =>
              have HV : Hid (rmayB r = true) := by show _ = _; unfold rmayB; rw [if_neg (by omega), if_neg (by omega), if_neg (by omega), if_pos (by omega)]; simp [h_undo, h_img, h_plain, h_old]
              clear hk
              go_wp2_with (first
                | (refine build_none_g rfl 33 rfl _ hb29 ?_)
                | (refine build_none_g rfl 24 rfl _ hb24 ?_))
              go_ret
              exact ⟨by rw [HV.out]; rfl, yb⟩
    have nk4 := hk
    clear hk
    by_cases hk : r.kind = 5
    · skip
      have t1 : (r.kind == 1) = false := by simp; omega
      have t2 : (r.kind == 2) = false := by simp; omega
      have t3 : (r.kind == 3) = false := by simp; omega
      have t4 : (r.kind == 4) = false := by simp; omega
      have t5 : (r.kind == 5) = true := by simp [hk]
      cases h_undo : r.undo with
      | false =>
        have HV : Hid (rmayB r = false) := by show _ = _; unfold rmayB; rw [if_neg (by omega), if_neg (by omega), if_neg (by omega), if_pos (by omega)]; simp [h_undo]
        clear hk
        go_wp2_with (first
          | (refine build_none_g rfl 33 rfl _ hb29 ?_)
          | (refine build_none_g rfl 24 rfl _ hb24 ?_))
        go_ret
        exact ⟨by rw [HV.out]; rfl, yb⟩
      | true =>
        cases h_img : decide (r.img = zs 224) with
        | false =>
          have HV : Hid (rmayB r = false) := by show _ = _; unfold rmayB; rw [if_neg (by omega), if_neg (by omega), if_neg (by omega), if_pos (by omega)]; simp [h_undo, h_img]
          clear hk
          go_wp2_with (first
            | (refine build_none_g rfl 33 rfl _ hb29 ?_)
            | (refine build_none_g rfl 24 rfl _ hb24 ?_))
          go_ret
          exact ⟨by rw [HV.out]; rfl, yb⟩
        | true =>
          cases h_plain : plainR r with
          | false =>
            have HV : Hid (rmayB r = false) := by show _ = _; unfold rmayB; rw [if_neg (by omega), if_neg (by omega), if_neg (by omega), if_pos (by omega)]; simp [h_undo, h_img, h_plain]
            clear hk
            go_wp2_with (first
              | (refine build_none_g rfl 33 rfl _ hb29 ?_)
              | (refine build_none_g rfl 24 rfl _ hb24 ?_))
            go_ret
            exact ⟨by rw [HV.out]; rfl, yb⟩
          | true =>
            cases h_old : decide (r.old = O.zero) with
            | false =>
              have HV : Hid (rmayB r = false) := by show _ = _; unfold rmayB; rw [if_neg (by omega), if_neg (by omega), if_neg (by omega), if_pos (by omega)]; simp [h_undo, h_img, h_plain, h_old]
              clear hk
              go_wp2_with (first
                | (refine build_none_g rfl 33 rfl _ hb29 ?_)
                | (refine build_none_g rfl 24 rfl _ hb24 ?_))
              go_ret
              exact ⟨by rw [HV.out]; rfl, yb⟩
            | true =>
              have HV : Hid (rmayB r = true) := by show _ = _; unfold rmayB; rw [if_neg (by omega), if_neg (by omega), if_neg (by omega), if_pos (by omega)]; simp [h_undo, h_img, h_plain, h_old]
              clear hk
              go_wp2_with (first
                | (refine build_none_g rfl 33 rfl _ hb29 ?_)
                | (refine build_none_g rfl 24 rfl _ hb24 ?_))
              go_ret
              exact ⟨by rw [HV.out]; rfl, yb⟩
    have nk5 := hk
    clear hk
    by_cases hk : r.kind = 6
    · skip
      have t1 : (r.kind == 1) = false := by simp; omega
      have t2 : (r.kind == 2) = false := by simp; omega
      have t3 : (r.kind == 3) = false := by simp; omega
      have t4 : (r.kind == 4) = false := by simp; omega
      have t5 : (r.kind == 5) = false := by simp; omega
      have t6 : (r.kind == 6) = true := by simp [hk]
      by_cases h_page : r.undo = false ∧ r.no = 0
      rotate_left
      · skip
        have s_page : ∀ w, (Op.equalIn 10000 24 (.agg #[.bool r.undo, .int .u16 r.no]) (.agg #[.bool false, .int .u16 0])).run Try.prog w = .ok false w := fun w => by rw [equal24r, decide_eq_false h_page]
        have HV : Hid (rmayB r = false) := by show _ = _; unfold rmayB; rw [if_neg (by omega), if_neg (by omega), if_neg (by omega), if_neg (by omega), if_pos hk]; simp [h_page]
        clear h_page
        clear hk
        go_wp2_with (first
          | (refine build_none_g rfl 33 rfl _ hb29 ?_)
          | (refine build_none_g rfl 24 rfl _ hb24 ?_))
        go_ret
        exact ⟨by rw [HV.out]; rfl, yb⟩
      · skip
        have s_page : ∀ w, (Op.equalIn 10000 24 (.agg #[.bool r.undo, .int .u16 r.no]) (.agg #[.bool false, .int .u16 0])).run Try.prog w = .ok true w := fun w => by rw [equal24r, decide_eq_true h_page]
        cases h_img : decide (r.img = zs 224) with
        | false =>
          have HV : Hid (rmayB r = false) := by show _ = _; unfold rmayB; rw [if_neg (by omega), if_neg (by omega), if_neg (by omega), if_neg (by omega), if_pos hk]; simp [h_page, h_img]
          clear h_page
          clear hk
          go_wp2_with (first
            | (refine build_none_g rfl 33 rfl _ hb29 ?_)
            | (refine build_none_g rfl 24 rfl _ hb24 ?_))
          go_ret
          exact ⟨by rw [HV.out]; rfl, yb⟩
        | true =>
          by_cases h_prev : r.pp = 0 ∧ r.ps = 0
          rotate_left
          · skip
            have s_prev : ∀ w, (Op.equalIn 10000 33 (.agg #[.int .u16 r.pp, .int .u8 r.ps]) (.agg #[.int .u16 0, .int .u8 0])).run Try.prog w = .ok false w := fun w => by rw [equal33, decide_eq_false h_prev]
            have HV : Hid (rmayB r = false) := by show _ = _; unfold rmayB; rw [if_neg (by omega), if_neg (by omega), if_neg (by omega), if_neg (by omega), if_pos hk]; simp [h_page, h_img, h_prev]
            clear h_page h_prev
            clear hk
            go_wp2_with (first
              | (refine build_none_g rfl 33 rfl _ hb29 ?_)
              | (refine build_none_g rfl 24 rfl _ hb24 ?_))
            go_ret
            exact ⟨by rw [HV.out]; rfl, yb⟩
          · skip
            have s_prev : ∀ w, (Op.equalIn 10000 33 (.agg #[.int .u16 r.pp, .int .u8 r.ps]) (.agg #[.int .u16 0, .int .u8 0])).run Try.prog w = .ok true w := fun w => by rw [equal33, decide_eq_true h_prev]
            by_cases h_delta : r.delta = ByteArray.empty
            rotate_left
            · skip
              have s_delta : ¬ r.delta.toList = [] := fun q => h_delta (bytes_inj (q.trans empty_list.symm))
              have s_delta2 : r.delta.toList.isEmpty = false := by cases hh : r.delta.toList with | nil => exact absurd hh s_delta | cons a b => rfl
              have HV : Hid (rmayB r = false) := by show _ = _; unfold rmayB; rw [if_neg (by omega), if_neg (by omega), if_neg (by omega), if_neg (by omega), if_pos hk]; simp [h_page, h_img, h_prev, h_delta]
              clear h_page h_prev h_delta
              clear hk
              go_wp2_with (first
                | (refine build_none_g rfl 33 rfl _ hb29 ?_)
                | (refine build_none_g rfl 24 rfl _ hb24 ?_))
              go_ret
              exact ⟨by rw [HV.out]; rfl, yb⟩
            · skip
              have s_delta : r.delta.toList = [] := by rw [h_delta]; exact empty_list
              by_cases h_slot : r.slot = 0
              rotate_left
              · skip
                have s_slot : (r.slot == 0) = false := by simp [h_slot]
                have HV : Hid (rmayB r = false) := by show _ = _; unfold rmayB; rw [if_neg (by omega), if_neg (by omega), if_neg (by omega), if_neg (by omega), if_pos hk]; simp [h_page, h_img, h_prev, h_delta, h_slot]
                clear h_page h_prev h_delta h_slot
                clear hk
                go_wp2_with (first
                  | (refine build_none_g rfl 33 rfl _ hb29 ?_)
                  | (refine build_none_g rfl 24 rfl _ hb24 ?_))
                go_ret
                exact ⟨by rw [HV.out]; rfl, yb⟩
              · skip
                have s_slot : (r.slot == 0) = true := by simp [h_slot]
                cases h_old : decide (r.old = O.zero) with
                | false =>
                  have HV : Hid (rmayB r = false) := by show _ = _; unfold rmayB; rw [if_neg (by omega), if_neg (by omega), if_neg (by omega), if_neg (by omega), if_pos hk]; simp [h_page, h_img, h_prev, h_delta, h_slot, h_old]
                  clear h_page h_prev h_delta h_slot
                  clear hk
                  go_wp2_with (first
                    | (refine build_none_g rfl 33 rfl _ hb29 ?_)
                    | (refine build_none_g rfl 24 rfl _ hb24 ?_))
                  go_ret
                  exact ⟨by rw [HV.out]; rfl, yb⟩
                | true =>
                  have HV : Hid (rmayB r = true) := by show _ = _; unfold rmayB; rw [if_neg (by omega), if_neg (by omega), if_neg (by omega), if_neg (by omega), if_pos hk]; simp [h_page, h_img, h_prev, h_delta, h_slot, h_old]
                  clear h_page h_prev h_delta h_slot
                  clear hk
                  go_wp2_with (first
                    | (refine build_none_g rfl 33 rfl _ hb29 ?_)
                    | (refine build_none_g rfl 24 rfl _ hb24 ?_))
                  go_ret
                  exact ⟨by rw [HV.out]; rfl, yb⟩
    have nk6 := hk
    clear hk
    have HV : Hid (rmayB r = false) := by show _ = _; unfold rmayB; rw [if_neg nk1, if_neg nk2, if_neg nk3, if_neg (by omega), if_neg nk6]
    have t1 : (r.kind == 1) = false := by simp; omega
    have t2 : (r.kind == 2) = false := by simp; omega
    have t3 : (r.kind == 3) = false := by simp; omega
    have t4 : (r.kind == 4) = false := by simp; omega
    have t5 : (r.kind == 5) = false := by simp; omega
    have t6 : (r.kind == 6) = false := by simp; omega
    clear nk1 nk2 nk3 nk4 nk5 nk6
    go_wp2
    go_ret
    exact ⟨by rw [HV.out]; rfl, yb⟩
end Go.Proofs.Ytihjapfgllokgab
