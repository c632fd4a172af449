/-
  Plain facts on records' bytes: unlike records have unlike bytes.
-/
import Derived.Test.YtihjapfgllokgaaEnc
namespace Go.Proofs.Ytihjapfgllokgaa
open Go.ChangeShapes Go.WideShapes Go.ChangeAt Go.RowKit
set_option linter.unusedVariables false
set_option linter.unusedSimpArgs false

theorem low_inj {v v' : Int} {n : Nat} (h : low v n = low v' n) (h0 : 0 ≤ v) (h1 : 0 ≤ v') (h2 : v < 2 ^ (8 * n)) (h3 : v' < 2 ^ (8 * n)) : v = v' := by
  have e := getN_tx (low_bytes v n) v h0 0 n (by rw [low_length]; omega) h2 (fun k hk => by rw [Nat.zero_add]; exact low_getD v n k hk)
  have e' := getN_tx (low_bytes v' n) v' h1 0 n (by rw [low_length]; omega) h3 (fun k hk => by rw [Nat.zero_add]; exact low_getD v' n k hk)
  rw [← e, ← e', h]
theorem low_inj1 {v v' : Int} (h : low v 1 = low v' 1) (h0 : 0 ≤ v ∧ v ≤ 255) (h1 : 0 ≤ v' ∧ v' ≤ 255) : v = v' := by
  have e : (2 : Int) ^ (8 * 1) = 256 := by decide
  exact low_inj h h0.1 h1.1 (by rw [e]; omega) (by rw [e]; omega)
theorem low_inj2 {v v' : Int} (h : low v 2 = low v' 2) (h0 : 0 ≤ v ∧ v ≤ 65535) (h1 : 0 ≤ v' ∧ v' ≤ 65535) : v = v' := by
  have e : (2 : Int) ^ (8 * 2) = 65536 := by decide
  exact low_inj h h0.1 h1.1 (by rw [e]; omega) (by rw [e]; omega)
theorem low_inj4 {v v' : Int} (h : low v 4 = low v' 4) (h0 : 0 ≤ v ∧ v ≤ 4294967295) (h1 : 0 ≤ v' ∧ v' ≤ 4294967295) : v = v' := by
  have e : (2 : Int) ^ (8 * 4) = 4294967296 := by decide
  exact low_inj h h0.1 h1.1 (by rw [e]; omega) (by rw [e]; omega)
theorem app_inj {a b c d : List Int} (h : a ++ b = c ++ d) (hl : a.length = c.length) : a = c ∧ b = d := List.append_inj h hl
theorem nums_inj {s t : ByteArray} (h : nums s = nums t) : s = t := by rw [← tx_nums s, ← tx_nums t, h]
theorem sizeT_inj {s t : ByteArray} (h : sizeT s = sizeT t) : s = t := nums_inj (app_inj h (by rw [low_length, low_length])).2
theorem refT_inj {p s p' s' : Int} (h : refT p s = refT p' s') (h1 : 0 ≤ p ∧ p ≤ 65535) (h2 : 0 ≤ s ∧ s ≤ 255) (h3 : 0 ≤ p' ∧ p' ≤ 65535) (h4 : 0 ≤ s' ∧ s' ≤ 255) : p = p' ∧ s = s' := by
  have q := app_inj h (by rw [low_length, low_length])
  exact ⟨low_inj2 q.1 h1 h3, low_inj1 q.2 h2 h4⟩
theorem flagT_inj {a b : Bool} (h : flagT a = flagT b) : a = b := by cases a <;> cases b <;> simp_all [flagT]
theorem oldT_inj {o p : O} (h : oldT o = oldT p) (ho : o.Fits) (hp : p.Fits) : o.page = p.page ∧ o.ts = p.ts ∧ o.np = p.np ∧ o.ns = p.ns ∧ o.delta = p.delta := by
  unfold oldT at h
  obtain ⟨q1, q2⟩ := app_inj h (by simp only [List.length_append, low_length, refT_length])
  obtain ⟨q3, q4⟩ := app_inj q1 (by simp only [List.length_append, low_length])
  obtain ⟨q5, q6⟩ := app_inj q3 (by simp only [low_length])
  obtain ⟨q7, q8⟩ := refT_inj q4 ho.np ho.ns hp.np hp.ns
  exact ⟨low_inj2 q5 ho.page hp.page, low_inj4 q6 ho.ts hp.ts, q7, q8, sizeT_inj q2⟩
theorem imgN_zero (l : List Int) : ∀ (n i : Nat), imgN l n ≤ i → i < n → l.getD i 0 = 0
  | 0, i, _, h => absurd h (by omega)
  | k + 1, i, h, hi => by
    unfold imgN at h
    split at h
    · by_cases e : i = k
      · subst e; assumption
      · exact imgN_zero l k i h (by omega)
    · omega
theorem img_whole (l : List Int) (hl : l.length = 224) : l = imgT l ++ zs (224 - imgN l 224) := by
  have hn := imgN_le l 224
  apply list_ext _ _ 224 hl (by unfold imgT; rw [List.length_append, List.length_take, zs_length]; omega)
  intro i hi
  have hlt : (imgT l).length = imgN l 224 := by unfold imgT; rw [List.length_take]; omega
  by_cases q : i < imgN l 224
  · rw [getD_left (by omega)]
    unfold imgT
    simp only [List.getD]
    rw [List.getElem?_take, if_pos q]
  · rw [getD_right (by omega), zs_getD]
    exact imgN_zero l 224 i (by omega) hi
theorem imgT_inj {a b : List Int} (h : imgT a = imgT b) (ha : a.length = 224) (hb : b.length = 224) : a = b := by
  have la : (imgT a).length = imgN a 224 := by have := imgN_le a 224; unfold imgT; rw [List.length_take]; omega
  have lb : (imgT b).length = imgN b 224 := by have := imgN_le b 224; unfold imgT; rw [List.length_take]; omega
  rw [img_whole a ha, img_whole b hb, h, ← la, ← lb, h]
theorem imgT_bytes {a : List Int} (h : Bytes a) : Bytes (imgT a) := h.sub fun y hy => List.mem_of_mem_take hy
theorem sizeT_bytes (s : ByteArray) : Bytes (sizeT s) := (low_bytes _ _).append (nums_bytes _)
theorem flagT_bytes (b : Bool) : Bytes (flagT b) := by
  intro y hy; cases b <;> simp [flagT] at hy <;> subst hy <;> decide
theorem encT_bytes (r : R) (h : r.Fits) : Bytes (encT r) := by
  refine (low_bytes _ _).append ?_
  unfold fldT
  repeat' split
  · exact ((flagT_bytes _).append (low_bytes _ _)).append (sizeT_bytes _)
  · exact (((low_bytes _ _).append (low_bytes _ _)).append (refT_bytes _ _)).append (sizeT_bytes _)
  · exact ((low_bytes _ _).append (low_bytes _ _)).append ((((low_bytes _ _).append (low_bytes _ _)).append (refT_bytes _ _)).append (sizeT_bytes _))
  · exact (low_bytes _ _).append (low_bytes _ _)
  · exact low_bytes _ _
theorem encT_inj {a b : R} (ha : a.Fits) (hb : b.Fits) (ma : mayR a = true) (mb : mayR b = true) (h : encT a = encT b) : a = b := by
  unfold encT at h
  obtain ⟨hk, hf⟩ := app_inj h (by rw [low_length, low_length])
  have ek := low_inj1 hk ha.kind hb.kind
  have ma' := ma
  have mb' := mb
  unfold mayR at ma' mb'
  simp at ma' mb'
  have oa := ma'.2.1
  have ob := mb'.2.1
  have ka := ma'.1
  unfold okK at ka
  simp at ka
  unfold fldT at hf
  rw [oa, ob]
  unfold ownR
  rw [← ek] at hf ⊢
  by_cases k1 : a.kind = 1
  · rw [if_pos k1, if_pos k1] at hf ⊢
    obtain ⟨q1, q2⟩ := app_inj hf (by simp only [List.length_append, low_length, flagT_length])
    obtain ⟨q3, q4⟩ := app_inj q1 (by simp only [flagT_length])
    have e1 := flagT_inj q3
    have e2 := low_inj2 q4 ha.no hb.no
    have e3 := imgT_inj (tx_inj (imgT_bytes ha.img) (imgT_bytes hb.img) (sizeT_inj q2)) ha.len hb.len
    rw [e1, e2, e3]
  rw [if_neg k1, if_neg k1] at hf ⊢
  by_cases k2 : a.kind = 2
  · rw [if_pos k2, if_pos k2] at hf ⊢
    obtain ⟨q1, q2⟩ := app_inj hf (by simp only [List.length_append, low_length, refT_length])
    obtain ⟨q3, q4⟩ := app_inj q1 (by simp only [List.length_append, low_length])
    obtain ⟨q5, q6⟩ := app_inj q3 (by simp only [low_length])
    obtain ⟨e3, e4⟩ := refT_inj q4 ha.pp ha.ps hb.pp hb.ps
    rw [low_inj2 q5 ha.no hb.no, low_inj4 q6 ha.ts hb.ts, e3, e4, sizeT_inj q2]
  rw [if_neg k2, if_neg k2] at hf ⊢
  by_cases k3 : a.kind = 3
  · rw [if_pos k3, if_pos k3] at hf ⊢
    obtain ⟨q1, q2⟩ := app_inj hf (by simp only [List.length_append, low_length])
    obtain ⟨q3, q4⟩ := app_inj q1 (by simp only [low_length])
    obtain ⟨f1, f2, f3, f4, f5⟩ := oldT_inj q2 ha.old hb.old
    simp only [low_inj2 q3 ha.no hb.no, low_inj1 q4 ha.slot hb.slot, f1, f2, f3, f4, f5]
  rw [if_neg k3, if_neg k3] at hf ⊢
  by_cases k45 : a.kind = 4 ∨ a.kind = 5
  · rw [if_pos k45, if_pos k45] at hf
    obtain ⟨q3, q4⟩ := app_inj hf (by simp only [low_length])
    rcases k45 with k | k
    · rw [if_pos k, if_pos k, low_inj2 q3 ha.no hb.no, low_inj1 q4 ha.slot hb.slot]
    · rw [if_neg (by omega), if_pos k, if_neg (by omega), if_pos k, low_inj2 q3 ha.no hb.no, low_inj1 q4 ha.slot hb.slot]
  rw [if_neg k45, if_neg k45] at hf
  rw [if_neg (by omega), if_neg (by omega), if_pos (by omega), if_neg (by omega), if_neg (by omega), if_pos (by omega), low_inj4 hf ha.ts hb.ts]
end Go.Proofs.Ytihjapfgllokgaa
