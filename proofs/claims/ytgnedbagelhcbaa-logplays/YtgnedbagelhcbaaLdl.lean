/-
  Proved here: slices.Delete of a list of numbers in its own memory, from the first one on; log.Trim.
-/
import Derived.Test.YtgnedbagelhcbaaLgy
import Derived.Deep.RegionLaw
import Derived.Lib.SliceRun
namespace Go.Proofs.Ytgnedbagelhcbaa
open Go.ChangeShapes Go.WideShapes Go.ChangeAt Go.RowKit
set_option linter.unusedVariables false
set_option linter.unusedSimpArgs false
set_option maxRecDepth 20000
def layA (cs : Array Value) : Nat → List Value → Array Value
  | _, [] => cs
  | o, v :: r => layA (cs.setIfInBounds o v) (o + 1) r
theorem layA_size : ∀ (vs : List Value) (o : Nat) (cs : Array Value), (layA cs o vs).size = cs.size
  | [], _, _ => rfl
  | v :: r, o, cs => by show (layA _ (o + 1) r).size = _; rw [layA_size r]; simp
theorem layA_low : ∀ (vs : List Value) (o : Nat) (cs : Array Value) (j : Nat), j < o → (layA cs o vs)[j]? = cs[j]?
  | [], _, _, _, _ => rfl
  | v :: r, o, cs, j, h => by
    show (layA _ (o + 1) r)[j]? = _
    rw [layA_low r (o + 1) _ j (by omega), Array.getElem?_setIfInBounds_ne (by omega)]
theorem layA_at : ∀ (vs : List Value) (o : Nat) (cs : Array Value) (j : Nat), o + vs.length ≤ cs.size → j < vs.length → (layA cs o vs)[o + j]? = vs[j]?
  | [], _, _, j, _, h => by simp at h
  | v :: r, o, cs, 0, hl, _ => by
    show (layA _ (o + 1) r)[o]? = some v
    simp at hl
    rw [layA_low r (o + 1) _ o (by omega), Array.getElem?_setIfInBounds_self_of_lt (by omega)]
  | v :: r, o, cs, j + 1, hl, h => by
    show (layA _ (o + 1) r)[o + (j + 1)]? = r[j]?
    simp at hl h
    rw [show o + (j + 1) = o + 1 + j by omega]
    exact layA_at r (o + 1) _ j (by simp; omega) h
theorem Row.setCells {g : Nat} {t : TypeId} : ∀ (vs : List Value) (o : Nat) (w : World) (cs : Array Value), Row w g cs t → Row (w.setCells g o vs) g (layA cs o vs) t
  | [], _, _, _, h => h
  | v :: r, o, w, cs, h => Row.setCells r (o + 1) _ _ (row_set h o v)
theorem off_setCells {g : Nat} : ∀ (vs : List Value) (o : Nat) (w : World), Off (· = g) w (w.setCells g o vs)
  | [], _, w => Off.refl _ _
  | v :: r, o, w => (Off.of_setCell (F := (· = g)) w ⟨g, o, none⟩ v rfl).trans (off_setCells r (o + 1) _) (fun j q => Or.inl q)
def Deled (w : World) (base : Nat) (v : Value) (xs : List Int) (k : Nat) (e : Ending) (w' : World) : Prop := ∃ v', e = .returned v' ∧ OwnU w' base v' (xs.drop k) ∧ v'.ownBlock = v.ownBlock ∧ Off (fun j => v.ownBlock = some j) w w'
set_option maxHeartbeats 4000000 in
theorem delete_any (w : World) (base : Nat) (v : Value) (xs : List Int) (k : Nat) (h : OwnU w base v xs) (hk : k ≤ xs.length) (hx : xs.length ≤ 1000000) :
    Calls Try.prog 52 #[v, .int .i64 0, .int .i64 k] w fun e w' => Deled w base v xs k e w' := by
  obtain ⟨PP, HPP⟩ : ∃ PP : Ending → World → Prop, Hid (PP = fun e w' => Deled w base v xs k e w') := ⟨_, rfl⟩
  rw [← HPP.out]
  by_cases hk0 : k = 0
  · subst hk0
    have HK : Hid (PP (.returned v) w) := by
      show PP _ _
      rw [HPP.out]
      exact ⟨v, rfl, by rw [List.drop_zero]; exact h, rfl, Off.refl _ _⟩
    obtain ⟨n, cap, oa, hv, hle⟩ : ∃ n cap oa, v = .slice oa n cap ∧ n ≤ cap := by
      rcases h.2 with ⟨rfl, _⟩ | ⟨g, cap, cur, rfl, _, _, hle, _⟩
      · exact ⟨0, 0, none, rfl, Nat.le_refl _⟩
      · exact ⟨_, cap, _, rfl, hle⟩
    subst hv
    have hle' : (n : Int) ≤ (cap : Int) := by omega
    clear h hk hx
    go_enter Try.func52, Try.ntmps52
    go_wp2
    all_goals (try go_ret)
    all_goals exact HK.out
  · rcases h.2 with ⟨rfl, h0⟩ | ⟨g, cap, cur, rfl, hb, hc, hle, hm, hsz, htk⟩
    · omega
    · have hR : Row w g cur 25 := hc
      rw [Nat.mul_one] at hsz htk
      obtain ⟨n, Hn⟩ : ∃ n, Hid (xs.length = n) := ⟨_, rfl⟩
      rw [Hn.out] at hle htk hk hx
      obtain ⟨m, Hm⟩ : ∃ m, Hid (n - k = m) := ⟨_, rfl⟩
      have hm2 : m + k = n := by have := Hm.out; omega
      have hcell : ∀ j, j < n → cur[j]? = some (.int .u64 (xs.getD j 0)) := fun j hj => by
        have e1 : (cur.toList.take n)[j]? = (xs.map (Value.int .u64))[j]? := by rw [htk]
        have hjl : j < xs.length := by rw [Hn.out]; exact hj
        rw [List.getElem?_take_of_lt hj, Array.getElem?_toList, List.getElem?_map, List.getElem?_eq_getElem hjl] at e1
        rw [e1]; simp [List.getD, List.getElem?_eq_getElem hjl]
      obtain ⟨news, Hnews⟩ : ∃ news, Hid ((xs.drop k).map (Value.int .u64) = news) := ⟨_, rfl⟩
      have hnl : news.length = m := by rw [← Hnews.out, List.length_map, List.length_drop, Hn.out]; exact Hm.out
      have hR1 : Row (w.drew.setCells g 0 news) g (layA cur 0 news) 25 := Row.setCells news 0 w.drew cur hR
      have hR2 := Row.setCells (List.replicate k (.int .u64 0)) m _ _ hR1
      have HO2 : Hid (Off (fun j => (Value.slice (some ⟨g, 0, none⟩) n cap).ownBlock = some j) w ((w.drew.setCells g 0 news).setCells g m (List.replicate k (.int .u64 0)))) := by
        refine Off.trans (F' := (· = g)) ((Off.refl _ w).drew) ?_ (fun j q => Or.inl (by subst q; rfl))
        exact (off_setCells news 0 w.drew).trans (off_setCells _ m _) (fun j q => Or.inl q)
      have HK : Hid (PP (.returned (.slice (some ⟨g, 0, none⟩) m cap)) ((w.drew.setCells g 0 news).setCells g m (List.replicate k (.int .u64 0)))) := by
        show PP _ _
        rw [HPP.out]
        rw [Hn.out]
        refine ⟨_, rfl, ⟨by rw [List.length_map, Nat.mul_one], Or.inr ⟨g, cap, _, by rw [List.length_drop, Hn.out, Hm.out], hb, hR2, by rw [List.length_drop, Hn.out]; omega, hm, by rw [layA_size, layA_size, hsz, Nat.mul_one], ?_⟩⟩, rfl, HO2.out⟩
        rw [Nat.mul_one, Hnews.out]
        have hdl : (xs.drop k).length = m := by rw [List.length_drop, Hn.out]; exact Hm.out
        rw [hdl]
        apply List.ext_getElem?
        intro j
        by_cases hj : j < m
        · rw [List.getElem?_take_of_lt hj, Array.getElem?_toList, layA_low _ _ _ _ hj]
          have := layA_at news 0 cur j (by rw [hnl]; omega) (by rw [hnl]; exact hj)
          rw [Nat.zero_add] at this; exact this
        · rw [List.getElem?_eq_none (by simp; omega), List.getElem?_eq_none (by omega)]
      obtain ⟨A, hA, hsrc⟩ : ∃ A : Addr, (if cap = k then some (⟨g, 0, none⟩ : Addr) else some ⟨g, k, none⟩) = some A ∧ Hid (∀ t u, news[t]? = some u → w.drew.cell? (A.add t) = some u) := by
        by_cases hq : cap = k
        · refine ⟨⟨g, 0, none⟩, by simp [hq], fun t u hu => ?_⟩
          have h0 : news.length = 0 := by rw [hnl]; omega
          rw [List.eq_nil_of_length_eq_zero h0] at hu
          simp at hu
        · refine ⟨⟨g, k, none⟩, by simp [hq], fun t u hu => ?_⟩
          have ht : t < m := by have := (List.getElem?_eq_some_iff.1 hu).1; rw [hnl] at this; exact this
          rw [← Hnews.out, List.getElem?_map, List.getElem?_drop] at hu
          have hxl : k + t < xs.length := by rw [Hn.out]; omega
          rw [List.getElem?_eq_getElem hxl] at hu
          have hcc := hcell (k + t) (by omega)
          rw [Addr.add_mid]
          show w.cell? _ = _
          rw [cell_of_row w g _ _ _ _ hR, hcc, ← hu]
          simp [List.getD, List.getElem?_eq_getElem hxl]
      have s1 : Hid (news.length = m * 1) := by show _ = _; rw [Nat.mul_one]; exact hnl
      have s2 : Hid (∀ u ∈ news, u.oneCell' = true) := fun u hu => by
        rw [← Hnews.out] at hu
        obtain ⟨x, _, rfl⟩ := List.mem_map.1 hu
        rfl
      have s3 : Hid (∀ t, t < news.length → (w.drew.cell? ⟨g, 0 + 0 * 1 + t, none⟩).isSome = true ∧ w.drew.frozen? ⟨g, 0 + 0 * 1 + t, none⟩ = false) := fun t ht => by
        rw [hnl] at ht
        refine ⟨?_, row_frozen (w := w.drew) hR _⟩
        show (w.cell? _).isSome = true
        rw [cell_of_row w g _ _ _ _ hR, show 0 + 0 * 1 + t = t by omega, hcell t (by omega)]; rfl
      obtain ⟨i0, hi0, hz0, hz1, hz2⟩ := Ck.info_parts info25u
      obtain ⟨W1, HW1⟩ : ∃ W1, Hid (W1 = w.drew.setCells g (0 + 0 * 1) news) := ⟨_, rfl⟩
      have eW : w.drew.setCells g 0 news = W1 := by rw [HW1.out]
      rw [eW] at hR1 HK
      have hcl : ∀ ty, (Builtin.clear_ #[100] ty #[.slice (some ⟨g, m, none⟩) k (cap - m)]).run Try.prog W1 = .ok (.tuple #[]) (W1.setCells g m (List.replicate k (.int .u64 0))) := fun ty =>
        Lib.run_clear_slice W1 100 25 ty (.int .u64 0) Try.underlying100 Try.zeroValue25 rfl rfl g m k (cap - m) (by omega) (fun t ht => by
          rw [cell_of_row W1 g _ _ _ _ hR1, Array.getElem?_eq_getElem (by rw [layA_size]; omega)]; rfl) (fun t ht => row_frozen hR1 _)
      have hkc : k ≤ cap := by omega
      have hnk : n - m = k := by omega
      have hmn : m ≤ n := by omega
      have hnc : n ≤ cap := hle
      have hkn : ¬ (0 : Int) = (k : Int) := by omega
      have hkn2 : ((0 : Int) == (k : Int)) = false := by simp; omega
      have hmc : ¬ cap = m := by omega
      rw [Hn.out]
      have hmm := Hm.out
      clear hR hR1 hR2 hcell h hc hb hsz htk Hnews hnl HO2 eW
      go_enter Try.func52, Try.ntmps52
      go_wp2_with fail
      go_region_law (refine step_append_room rfl (.tmp 22) (.tmp 25) 100 rfl 25 i0 1 Try.underlying100 hi0 hz1 g 0 0 cap (by simp [Act.eval, Act.put]) A m (cap - k) news (by simp [Act.eval, Act.put, hA, hmm]) s1.out hsrc.out s2.out (by omega) s3.out ?_; rw [← HW1.out])
      go_wp2
      try go_ret
      exact HK.out
end Go.Proofs.Ytgnedbagelhcbaa
