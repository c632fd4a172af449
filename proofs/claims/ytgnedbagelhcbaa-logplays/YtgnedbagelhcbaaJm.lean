/-
  The document's log as it lies in memory. Proved here: its cut: the first bytes of the open part become a block. Proved here: the document's Append. Proved here: the document's lay: blocks are written, one behind the other, and synced. The document's log and its disk in memory. Proved here: its Flush and Free. Proved here: the document's Free, From and Trim.
-/
import Derived.Test.YtgnedbagelhcbaaJl
import Derived.Test.YtgnedbagelhcbaaLgs
import Derived.ArgAppend
import Derived.Test.YtgnedbagelhcbaaLgy
import Derived.BigQuiet
import Derived.Test.YtgnedbagelhcbaaLgl
namespace Go.Proofs.Ytgnedbagelhcbaa
open Go.ChangeShapes Go.WideShapes Go.ChangeAt Go.RowKit
set_option linter.unusedVariables false
set_option linter.unusedSimpArgs false
set_option maxRecDepth 20000
def MOwn (w : World) (v : Value) (os : List Ck.O) : Prop :=
  (v = .slice none 0 0 ∧ os = []) ∨ ∃ g off cap cur, v = .slice (some ⟨g, off, none⟩) os.length cap ∧ w.heap[g]? = some (.cells cur 65 (0, 0)) ∧ os.length ≤ cap ∧ cap ≤ maxLen ∧ off + cap * 4 ≤ cur.size ∧ ∀ j u, (Ck.flat os)[j]? = some u → cur[off + j]? = some u
theorem MOwn.nil (w : World) : MOwn w (.slice none 0 0) [] := Or.inl ⟨rfl, rfl⟩
theorem MOwn.lt {w : World} {v : Value} {os : List Ck.O} (h : MOwn w v os) : ∀ j, v.ownBlock = some j → j < w.heap.size := by
  rintro j hj
  rcases h with ⟨rfl, _⟩ | ⟨g, off, cap, cur, rfl, hg, _⟩
  · cases hj
  · cases hj; exact (Array.getElem?_eq_some_iff.1 hg).1
theorem MOwn.off {F : Nat → Prop} {w w' : World} {v : Value} {os : List Ck.O} (h : MOwn w v os) (o : Off F w w') (hF : ∀ j, v.ownBlock = some j → ¬ F j) : MOwn w' v os := by
  have hl := h.lt
  rcases h with h | ⟨g, off, cap, cur, rfl, hg, h2⟩
  · exact Or.inl h
  · exact Or.inr ⟨g, off, cap, cur, rfl, by rw [o.block g (hl g rfl) (hF g rfl)]; exact hg, h2⟩
theorem MOwn.keep {w w' : World} {v : Value} {os : List Ck.O} (h : MOwn w v os) (hb : Below w.heap.size w w') : MOwn w' v os := h.off (Off.of_below (F := fun _ => False) hb) (fun _ _ q => q)
theorem MOwn.form {w : World} {v : Value} {os : List Ck.O} (h : MOwn w v os) : ∃ oa cap, v = .slice oa os.length cap := by
  rcases h with ⟨rfl, rfl⟩ | ⟨g, off, cap, cur, rfl, _⟩
  · exact ⟨none, 0, rfl⟩
  · exact ⟨_, cap, rfl⟩
theorem MOwn.olds {w : World} {v : Value} {os : List Ck.O} (h : MOwn w v os) : Ck.Olds w v os := by
  rcases h with h | ⟨g, off, cap, cur, rfl, hg, _, _, _, hc⟩
  · exact Or.inl h
  · refine Or.inr ⟨⟨g, off, none⟩, cap, rfl, fun j u hj => ?_⟩
    rw [Addr.add_mid, cell_of_row w g (off + j) _ _ _ hg]
    exact hc j u hj
theorem setCells_row {g t : Nat} : ∀ (news : List Value) (o : Nat) (w : World) (cur : Array Value), Row w g cur t → o + news.length ≤ cur.size →
    ∃ cur', Row (w.setCells g o news) g cur' t ∧ cur'.size = cur.size ∧ (∀ k, k < o → cur'[k]? = cur[k]?) ∧ (∀ j, j < news.length → cur'[o + j]? = news[j]?) ∧ Off (· = g) w (w.setCells g o news)
  | [], o, w, cur, h, _ => ⟨cur, h, rfl, fun _ _ => rfl, fun j hj => by simp at hj, Off.refl _ _⟩
  | v :: r, o, w, cur, h, hl => by
    have hl' : o + (r.length + 1) ≤ cur.size := hl
    have h1 : Row (w.setCell ⟨g, o, none⟩ v) g (cur.setIfInBounds o v) t := row_set h o v
    obtain ⟨c', k1, k2, k3, k4, k5⟩ := setCells_row r (o + 1) (w.setCell ⟨g, o, none⟩ v) _ h1 (by rw [Array.size_setIfInBounds]; omega)
    refine ⟨c', k1, by rw [k2, Array.size_setIfInBounds], fun k hk => ?_, fun j hj => ?_, (Off.of_setCell (F := (· = g)) w ⟨g, o, none⟩ v rfl).trans k5 (fun j q => Or.inl q)⟩
    · rw [k3 k (by omega), Array.getElem?_setIfInBounds_ne (by omega)]
    · cases j with
      | zero => rw [Nat.add_zero, k3 o (by omega), Array.getElem?_setIfInBounds_self_of_lt (by omega)]; rfl
      | succ j =>
        have := k4 j (by simpa using hj)
        rw [show o + 1 + j = o + (j + 1) by omega] at this
        rw [this]; rfl
theorem MOwn.snoc {w : World} {v : Value} {os : List Ck.O} (h : MOwn w v os) (ty : TypeId) (X : Nat) (p : Ck.O) (hX : Row w X p.arr 65) (hn : os.length ≤ 1000) :
    ∃ v' w', (Builtin.append_ #[47, 47] ty #[v, .slice (some ⟨X, 0, none⟩) 1 1]).run Try.prog w = .ok v' w' ∧ (MOwn w' v' (os ++ [p]) ∧ Off (fun j => v.ownBlock = some j) w w' ∧ ∀ j, v'.ownBlock = some j → v.ownBlock = some j ∨ w.heap.size ≤ j) := by
  obtain ⟨i, hi, hz, hs, hby⟩ := Ck.info_parts Ck.info65
  have hnews : ∀ j u, p.cells[j]? = some u → w.cell? ((⟨X, 0, none⟩ : Addr).add j) = some u := fun j u hj => by
    rw [Addr.add_mid, Nat.zero_add, cell_of_row w X j _ _ _ hX, ← hj]; show p.cells.toArray[j]? = _; rw [List.getElem?_toArray]
  have hone : ∀ u ∈ p.cells, u.oneCell' = true := fun u hu => Ck.flat_one [p] u (by simpa [Ck.flat] using hu)
  have toM : ∀ {w' : World} {v' : Value} {xs : List Ck.O} {b : Nat}, Ck.Own w' b v' xs → MOwn w' v' xs := fun {w' v' xs b} ho => by
    rcases ho.2 with ⟨rfl, h2⟩ | ⟨g, cap, cur, rfl, hb, hc, hle, hm, hsz, ht⟩
    · exact Or.inl ⟨rfl, List.eq_nil_of_length_eq_zero h2⟩
    · refine Or.inr ⟨g, 0, cap, cur, rfl, hc, hle, hm, by omega, fun j u hj => ?_⟩
      rw [Nat.zero_add]
      have hlt : j < xs.length * 4 := by
        have := (List.getElem?_eq_some_iff.1 hj).1
        rw [Ck.flat_length] at this; exact this
      rw [← ht, List.getElem?_take, if_pos hlt, Array.getElem?_toList] at hj
      exact hj
  rcases h with ⟨rfl, rfl⟩ | ⟨g, off, cap, cur, rfl, hg, hle, hcm, hsz, hc⟩
  · obtain ⟨v', w', hr, h2, h3, h4⟩ := Ck.Own.snocQ (show Ck.Own w 0 (.slice none 0 0) [] from ⟨rfl, Or.inl ⟨rfl, rfl⟩⟩) ty X p hX (Nat.zero_le _) (Nat.zero_le _)
    refine ⟨v', w', hr, toM h2, Off.of_grown h3 (fun k hk => hk), fun j hj => ?_⟩
    rcases h4 with q | q
    · rw [q] at hj; exact Or.inl hj
    · rw [q] at hj; cases hj; exact Or.inr (Nat.le_refl _)
  · by_cases hroom : os.length + 1 ≤ cap
    · have hcell : ∀ j, j < p.cells.length → w.cell? ⟨g, off + os.length * 4 + j, none⟩ = cur[off + os.length * 4 + j]? := fun j hj => cell_of_row w g _ _ _ _ hg
      have hpl : p.cells.length = 4 := rfl
      have hr := run_append_room_cells (P := Try.prog) w 47 ty 65 i Try.underlying47 hi g off os.length cap ⟨X, 0, none⟩ 1 1 p.cells (by rw [hs]; rfl) hnews hone hroom (fun j hj => by rw [hs, hcell j hj]; simp only [hpl] at hj; rw [Array.getElem?_eq_getElem (by omega)]; rfl) (fun j hj => by rw [hs]; exact frozen_of_row w g _ _ _ hg)
      rw [hs] at hr
      obtain ⟨cur', k1, k2, k3, k4, k5⟩ := setCells_row p.cells (off + os.length * 4) w cur hg (by rw [hpl]; omega)
      refine ⟨_, _, hr, Or.inr ⟨g, off, cap, cur', by rw [List.length_append]; rfl, k1, by rw [List.length_append]; exact hroom, hcm, by rw [k2]; exact hsz, fun j u hj => ?_⟩, k5.mono (fun j q => Or.inl (by rw [q]; rfl)), fun j hj => Or.inl hj⟩
      rw [Ck.flat_append] at hj
      by_cases hj4 : j < os.length * 4
      · rw [List.getElem?_append_left (by rw [Ck.flat_length]; exact hj4)] at hj
        rw [k3 _ (by omega)]
        exact hc j u hj
      · rw [List.getElem?_append_right (by rw [Ck.flat_length]; omega), Ck.flat_length] at hj
        have hj' : p.cells[j - os.length * 4]? = some u := by simpa [Ck.flat] using hj
        have hlt : j - os.length * 4 < 4 := by have := (List.getElem?_eq_some_iff.1 hj').1; rw [hpl] at this; exact this
        have e : off + j = (off + os.length * 4) + (j - os.length * 4) := by omega
        rw [e, k4 _ (by rw [hpl]; exact hlt)]
        exact hj'
    · obtain ⟨v', w', hr, h2, h3⟩ := run_append_arg_grows (P := Try.prog) w 47 ty 65 i _ 4 32 Try.underlying47 hi hz hs hby rfl (by decide) ⟨g, off, none⟩ os.length cap (Ck.flat os) (by rw [Ck.flat_length]) (fun j u hj => by rw [Addr.add_mid, cell_of_row w g _ _ _ _ hg]; exact hc j u hj) ⟨X, 0, none⟩ 1 1 p.cells rfl hnews (by omega) (by unfold maxLen; omega) (by omega)
      have h2' : Ck.Own w' w.heap.size v' (os ++ [p]) := by
        unfold Ck.Own
        rw [Ck.flat_append, List.length_append]
        exact h2
      exact ⟨v', w', hr, toM h2', (Off.of_grown (F := fun _ => False) h3 (fun k hk => by cases hk)).mono (fun j q => q.elim), fun j hj => Or.inr (World.ownsRow.lt h2 j hj).1⟩
theorem MOwn.drop {w : World} {a : Addr} {n cap : Nat} {os : List Ck.O} (h : MOwn w (.slice (some a) n cap) os) (k : Nat) (hk : k ≤ os.length) : MOwn w (.slice (some (a.add (k * 4))) (n - k) (cap - k)) (os.drop k) := by
  rcases h with ⟨q, _⟩ | ⟨g, off, cap2, cur, q, hg, hle, hcm, hsz, hc⟩
  · cases q
  · cases q
    refine Or.inr ⟨g, off + k * 4, cap - k, cur, by rw [Addr.add_mid, List.length_drop], hg, by rw [List.length_drop]; omega, by omega, by omega, fun j u hj => ?_⟩
    have e : (Ck.flat os)[k * 4 + j]? = some u := by
      rw [← List.take_append_drop k os, Ck.flat_append, List.getElem?_append_right (by rw [Ck.flat_length, List.length_take]; omega), Ck.flat_length, List.length_take, Nat.min_eq_left hk]
      rw [show k * 4 + j - k * 4 = j by omega]; exact hj
    have := hc _ u e
    rw [show off + k * 4 + j = off + (k * 4 + j) by omega]; exact this
structure RLg where
  at_ : Int
  size : Int
  ep : Int
  first : Int
  blocks : List Ck.O
  lasting : Nat
  open_ : ByteArray
  fin : Int
  dur : Int
  old : Bool
def rlcells (pd vb : Value) (m : RLg) : Array Value := #[pd, .int .i64 m.at_, .int .i64 m.size, .int .u32 m.ep, .int .u32 m.first, vb, .int .i64 m.lasting, .string m.open_, .int .u64 m.fin, .int .u64 m.dur, .bool m.old]
def RLg.cut (m : RLg) (n : Nat) : RLg := { m with blocks := m.blocks ++ [⟨m.ep, IntKind.u32.wrap (m.first + m.blocks.length), m.fin - m.open_.size, m.open_.extract 0 n⟩], open_ := m.open_.extract n m.open_.size }
def RCut (w : World) (gm : Nat) (pd vb : Value) (m : RLg) (w' : World) : Prop :=
  ∃ vb', Row w' gm (rlcells pd vb' m) 49 ∧ MOwn w' vb' m.blocks ∧ vb'.ownBlock ≠ some gm ∧ Off (fun j => j = gm ∨ vb.ownBlock = some j) w w' ∧ (∀ j, vb'.ownBlock = some j → vb.ownBlock = some j ∨ w.heap.size ≤ j)
set_option maxHeartbeats 4000000 in
theorem rcut_any (w : World) (gm : Nat) (pd vb : Value) (m : RLg) (N : Nat) (hr : Row w gm (rlcells pd vb m) 49) (ho : MOwn w vb m.blocks) (hng : vb.ownBlock ≠ some gm) (hN : N ≤ m.open_.size) (hs : m.blocks.length ≤ 900) (hf : (m.open_.size : Int) ≤ m.fin ∧ m.fin ≤ 18446744073709551615) (hsz : m.open_.size ≤ 1000000000) :
    Calls Try.prog 48 #[.pointer (some ⟨gm, 0, none⟩), .int .i64 N] w fun e w' => e = .returned (.tuple #[]) ∧ RCut w gm pd vb (m.cut N) w' := by
  obtain ⟨PP, HPP⟩ : ∃ PP : World → Prop, Hid (PP = fun w' => RCut w gm pd vb (m.cut N) w') := ⟨_, rfl⟩
  have e0 : (fun e w' => e = Ending.returned (.tuple #[]) ∧ RCut w gm pd vb (m.cut N) w') = (fun e w' => e = Ending.returned (.tuple #[]) ∧ PP w') := by rw [HPP.out]
  rw [e0]
  clear e0
  obtain ⟨ob, cb, hv⟩ := ho.form
  obtain ⟨a, z, ep, fs, bl, la, op, fi, du, old⟩ := m
  subst hv
  simp only at hN hs hf hsz ho
  unfold rlcells at hr
  simp only at hr
  have HPP2 : Hid (∀ w', (∃ vb', Row w' gm (rlcells pd vb' (RLg.cut ⟨a, z, ep, fs, bl, la, op, fi, du, old⟩ N)) 49 ∧ MOwn w' vb' (RLg.cut ⟨a, z, ep, fs, bl, la, op, fi, du, old⟩ N).blocks ∧ vb'.ownBlock ≠ some gm ∧ Off (fun j => j = gm ∨ (Value.slice ob bl.length cb).ownBlock = some j) w w' ∧ (∀ j, vb'.ownBlock = some j → (Value.slice ob bl.length cb).ownBlock = some j ∨ w.heap.size ≤ j)) → PP w') := fun w' h => by rw [HPP.out]; exact h
  clear HPP
  obtain ⟨nx, Hnx⟩ : ∃ nx, Hid (IntKind.u32.wrap (fs + bl.length) = nx) := ⟨_, rfl⟩
  unfold RLg.cut at HPP2
  simp only [Hnx.out] at HPP2
  obtain ⟨M, HM⟩ : ∃ M, Hid (bl.length = M) := ⟨_, rfl⟩
  have hM : M ≤ 900 := by rw [← HM.out]; exact hs
  rw [HM.out] at hr ho HPP2 hng
  have hwnx : IntKind.u32.wrap (fs + (M : Int)) = nx := by rw [← HM.out]; exact Hnx.out
  have hwM : IntKind.u32.wrap (M : Int) = M := by rw [IntKind.wrap_u32]; omega
  have w1 : IntKind.u64.wrap (op.size : Int) = op.size := by rw [IntKind.wrap_u64]; omega
  have w2 : IntKind.u64.wrap (fi - op.size) = fi - op.size := by rw [IntKind.wrap_u64]; omega
  have hN' : (N : Int) ≤ op.size := by omega
  have HLT : Hid (∀ b, (Value.slice ob M cb).ownBlock = some b → b < w.heap.size ∧ b ≠ gm) := fun b hb => ⟨ho.lt b hb, fun q => hng (q ▸ hb)⟩
  have O1 : Off (fun j => j = gm ∨ (Value.slice ob M cb).ownBlock = some j) w w := Off.refl _ _
  go_enter Try.func48, Try.ntmps48
  go_upto_region 0 with fail
  refine wp_region_last (S := fun w' => Row w' gm #[pd, .int .i64 a, .int .i64 z, .int .u32 ep, .int .u32 fs, .slice ob M cb, .int .i64 la, .string op, .int .u64 fi, .int .u64 du, .bool old] 49 ∧ Off (fun j => j = gm ∨ (Value.slice ob M cb).ownBlock = some j) w w') 42 (by kernel_rfl) ⟨hr, O1.drew⟩ fun hS => ?_
  refine wpAnyL_take (i := 0) (v := .pointer (some ⟨gm, 0, none⟩)) rfl (by kernel_rfl) (by kernel_rfl) (by kernel_rfl) (by kernel_rfl) (fun _ _ _ h => h) (Or.inl ⟨by rfl, fun w _ => by go_simp⟩) hS ?_
  try simp only [Act.put, nz0, nz1, nz2, nz3, nz4, nz5]
  refine wpAnyL_take (i := 1) (v := .pointer (some ⟨gm, 0, none⟩)) rfl (by kernel_rfl) (by kernel_rfl) (by kernel_rfl) (by kernel_rfl) (fun _ _ _ h => h) (Or.inl ⟨by rfl, fun w _ => by go_simp⟩) hS ?_
  try simp only [Act.put, nz0, nz1, nz2, nz3, nz4, nz5]
  refine wpAnyL_take (i := 2) (v := .pointer (some ⟨gm, 0, none⟩)) rfl (by kernel_rfl) (by kernel_rfl) (by kernel_rfl) (by kernel_rfl) (fun _ _ _ h => h) (Or.inl ⟨by rfl, fun w _ => by go_simp⟩) hS ?_
  try simp only [Act.put, nz0, nz1, nz2, nz3, nz4, nz5]
  refine wpAnyL_take (i := 3) (v := .pointer (some ⟨gm, 5, none⟩)) rfl (by kernel_rfl) (by kernel_rfl) (by kernel_rfl) (by kernel_rfl) (fun _ _ _ h => h) (Or.inl ⟨by rfl, fun w _ => by go_simp⟩) hS ?_
  try simp only [Act.put, nz0, nz1, nz2, nz3, nz4, nz5]
  refine wpAnyL_take (i := 4) (v := .slice ob M cb) rfl (by kernel_rfl) (by kernel_rfl) (by kernel_rfl) (by kernel_rfl) (fun _ _ _ h => h) (Or.inl ⟨by rfl, fun w h => by have c := row_at h.1 5 _ rfl; go_simp⟩) hS ?_
  try simp only [Act.put, nz0, nz1, nz2, nz3, nz4, nz5]
  refine wpAnyL_take (i := 5) (v := .pointer (some ⟨gm, 0, none⟩)) rfl (by kernel_rfl) (by kernel_rfl) (by kernel_rfl) (by kernel_rfl) (fun _ _ _ h => h) (Or.inl ⟨by rfl, fun w _ => by go_simp⟩) hS ?_
  try simp only [Act.put, nz0, nz1, nz2, nz3, nz4, nz5]
  refine wpAnyL_take (i := 6) (v := .pointer (some ⟨gm, 0, none⟩)) rfl (by kernel_rfl) (by kernel_rfl) (by kernel_rfl) (by kernel_rfl) (fun _ _ _ h => h) (Or.inl ⟨by rfl, fun w _ => by go_simp⟩) hS ?_
  try simp only [Act.put, nz0, nz1, nz2, nz3, nz4, nz5]
  refine wpAnyL_take (i := 7) (v := .pointer (some ⟨gm, 3, none⟩)) rfl (by kernel_rfl) (by kernel_rfl) (by kernel_rfl) (by kernel_rfl) (fun _ _ _ h => h) (Or.inl ⟨by rfl, fun w _ => by go_simp⟩) hS ?_
  try simp only [Act.put, nz0, nz1, nz2, nz3, nz4, nz5]
  refine wpAnyL_take (i := 8) (v := .int .u32 ep) rfl (by kernel_rfl) (by kernel_rfl) (by kernel_rfl) (by kernel_rfl) (fun _ _ _ h => h) (Or.inl ⟨by rfl, fun w h => by have c := row_at h.1 3 _ rfl; go_simp⟩) hS ?_
  try simp only [Act.put, nz0, nz1, nz2, nz3, nz4, nz5]
  refine wpAnyL_take (i := 9) (v := .pointer (some ⟨gm, 0, none⟩)) rfl (by kernel_rfl) (by kernel_rfl) (by kernel_rfl) (by kernel_rfl) (fun _ _ _ h => h) (Or.inl ⟨by rfl, fun w _ => by go_simp⟩) hS ?_
  try simp only [Act.put, nz0, nz1, nz2, nz3, nz4, nz5]
  refine wpAnyL_take (i := 10) (v := .pointer (some ⟨gm, 0, none⟩)) rfl (by kernel_rfl) (by kernel_rfl) (by kernel_rfl) (by kernel_rfl) (fun _ _ _ h => h) (Or.inl ⟨by rfl, fun w _ => by go_simp⟩) hS ?_
  try simp only [Act.put, nz0, nz1, nz2, nz3, nz4, nz5]
  refine wpAnyL_take (i := 11) (v := .pointer (some ⟨gm, 4, none⟩)) rfl (by kernel_rfl) (by kernel_rfl) (by kernel_rfl) (by kernel_rfl) (fun _ _ _ h => h) (Or.inl ⟨by rfl, fun w _ => by go_simp⟩) hS ?_
  try simp only [Act.put, nz0, nz1, nz2, nz3, nz4, nz5]
  refine wpAnyL_take (i := 12) (v := .int .u32 fs) rfl (by kernel_rfl) (by kernel_rfl) (by kernel_rfl) (by kernel_rfl) (fun _ _ _ h => h) (Or.inl ⟨by rfl, fun w h => by have c := row_at h.1 4 _ rfl; go_simp⟩) hS ?_
  try simp only [Act.put, nz0, nz1, nz2, nz3, nz4, nz5]
  refine wpAnyL_take (i := 13) (v := .pointer (some ⟨gm, 0, none⟩)) rfl (by kernel_rfl) (by kernel_rfl) (by kernel_rfl) (by kernel_rfl) (fun _ _ _ h => h) (Or.inl ⟨by rfl, fun w _ => by go_simp⟩) hS ?_
  try simp only [Act.put, nz0, nz1, nz2, nz3, nz4, nz5]
  refine wpAnyL_take (i := 14) (v := .pointer (some ⟨gm, 0, none⟩)) rfl (by kernel_rfl) (by kernel_rfl) (by kernel_rfl) (by kernel_rfl) (fun _ _ _ h => h) (Or.inl ⟨by rfl, fun w _ => by go_simp⟩) hS ?_
  try simp only [Act.put, nz0, nz1, nz2, nz3, nz4, nz5]
  refine wpAnyL_take (i := 15) (v := .pointer (some ⟨gm, 5, none⟩)) rfl (by kernel_rfl) (by kernel_rfl) (by kernel_rfl) (by kernel_rfl) (fun _ _ _ h => h) (Or.inl ⟨by rfl, fun w _ => by go_simp⟩) hS ?_
  try simp only [Act.put, nz0, nz1, nz2, nz3, nz4, nz5]
  refine wpAnyL_take (i := 16) (v := .slice ob M cb) rfl (by kernel_rfl) (by kernel_rfl) (by kernel_rfl) (by kernel_rfl) (fun _ _ _ h => h) (Or.inl ⟨by rfl, fun w h => by have c := row_at h.1 5 _ rfl; go_simp⟩) hS ?_
  try simp only [Act.put, nz0, nz1, nz2, nz3, nz4, nz5]
  refine wpAnyL_take (i := 17) (v := .int .i64 M) rfl (by kernel_rfl) (by kernel_rfl) (by kernel_rfl) (by kernel_rfl) (fun _ _ _ h => h) (Or.inl ⟨by rfl, fun w _ => by go_simp⟩) hS ?_
  try simp only [Act.put, nz0, nz1, nz2, nz3, nz4, nz5]
  refine wpAnyL_take (i := 18) (v := .int .u32 M) rfl (by kernel_rfl) (by kernel_rfl) (by kernel_rfl) (by kernel_rfl) (fun _ _ _ h => h) (Or.inl ⟨by rfl, fun w _ => by go_simp⟩) hS ?_
  try simp only [Act.put, nz0, nz1, nz2, nz3, nz4, nz5]
  refine wpAnyL_take (i := 19) (v := .int .u32 nx) rfl (by kernel_rfl) (by kernel_rfl) (by kernel_rfl) (by kernel_rfl) (fun _ _ _ h => h) (Or.inl ⟨by rfl, fun w _ => by go_simp⟩) hS ?_
  try simp only [Act.put, nz0, nz1, nz2, nz3, nz4, nz5]
  refine wpAnyL_take (i := 20) (v := .pointer (some ⟨gm, 0, none⟩)) rfl (by kernel_rfl) (by kernel_rfl) (by kernel_rfl) (by kernel_rfl) (fun _ _ _ h => h) (Or.inl ⟨by rfl, fun w _ => by go_simp⟩) hS ?_
  try simp only [Act.put, nz0, nz1, nz2, nz3, nz4, nz5]
  refine wpAnyL_take (i := 21) (v := .pointer (some ⟨gm, 0, none⟩)) rfl (by kernel_rfl) (by kernel_rfl) (by kernel_rfl) (by kernel_rfl) (fun _ _ _ h => h) (Or.inl ⟨by rfl, fun w _ => by go_simp⟩) hS ?_
  try simp only [Act.put, nz0, nz1, nz2, nz3, nz4, nz5]
  refine wpAnyL_take (i := 22) (v := .pointer (some ⟨gm, 8, none⟩)) rfl (by kernel_rfl) (by kernel_rfl) (by kernel_rfl) (by kernel_rfl) (fun _ _ _ h => h) (Or.inl ⟨by rfl, fun w _ => by go_simp⟩) hS ?_
  try simp only [Act.put, nz0, nz1, nz2, nz3, nz4, nz5]
  refine wpAnyL_take (i := 23) (v := .int .u64 fi) rfl (by kernel_rfl) (by kernel_rfl) (by kernel_rfl) (by kernel_rfl) (fun _ _ _ h => h) (Or.inl ⟨by rfl, fun w h => by have c := row_at h.1 8 _ rfl; go_simp⟩) hS ?_
  try simp only [Act.put, nz0, nz1, nz2, nz3, nz4, nz5]
  refine wpAnyL_take (i := 24) (v := .pointer (some ⟨gm, 0, none⟩)) rfl (by kernel_rfl) (by kernel_rfl) (by kernel_rfl) (by kernel_rfl) (fun _ _ _ h => h) (Or.inl ⟨by rfl, fun w _ => by go_simp⟩) hS ?_
  try simp only [Act.put, nz0, nz1, nz2, nz3, nz4, nz5]
  refine wpAnyL_take (i := 25) (v := .pointer (some ⟨gm, 0, none⟩)) rfl (by kernel_rfl) (by kernel_rfl) (by kernel_rfl) (by kernel_rfl) (fun _ _ _ h => h) (Or.inl ⟨by rfl, fun w _ => by go_simp⟩) hS ?_
  try simp only [Act.put, nz0, nz1, nz2, nz3, nz4, nz5]
  refine wpAnyL_take (i := 26) (v := .pointer (some ⟨gm, 7, none⟩)) rfl (by kernel_rfl) (by kernel_rfl) (by kernel_rfl) (by kernel_rfl) (fun _ _ _ h => h) (Or.inl ⟨by rfl, fun w _ => by go_simp⟩) hS ?_
  try simp only [Act.put, nz0, nz1, nz2, nz3, nz4, nz5]
  refine wpAnyL_take (i := 27) (v := .string op) rfl (by kernel_rfl) (by kernel_rfl) (by kernel_rfl) (by kernel_rfl) (fun _ _ _ h => h) (Or.inl ⟨by rfl, fun w h => by have c := row_at h.1 7 _ rfl; go_simp⟩) hS ?_
  try simp only [Act.put, nz0, nz1, nz2, nz3, nz4, nz5]
  refine wpAnyL_take (i := 28) (v := .int .i64 op.size) rfl (by kernel_rfl) (by kernel_rfl) (by kernel_rfl) (by kernel_rfl) (fun _ _ _ h => h) (Or.inl ⟨by rfl, fun w _ => by go_simp⟩) hS ?_
  try simp only [Act.put, nz0, nz1, nz2, nz3, nz4, nz5]
  refine wpAnyL_take (i := 29) (v := .int .u64 op.size) rfl (by kernel_rfl) (by kernel_rfl) (by kernel_rfl) (by kernel_rfl) (fun _ _ _ h => h) (Or.inl ⟨by rfl, fun w _ => by go_simp⟩) hS ?_
  try simp only [Act.put, nz0, nz1, nz2, nz3, nz4, nz5]
  refine wpAnyL_take (i := 30) (v := .int .u64 (fi - op.size)) rfl (by kernel_rfl) (by kernel_rfl) (by kernel_rfl) (by kernel_rfl) (fun _ _ _ h => h) (Or.inl ⟨by rfl, fun w _ => by go_simp⟩) hS ?_
  try simp only [Act.put, nz0, nz1, nz2, nz3, nz4, nz5]
  refine wpAnyL_take (i := 31) (v := .pointer (some ⟨gm, 0, none⟩)) rfl (by kernel_rfl) (by kernel_rfl) (by kernel_rfl) (by kernel_rfl) (fun _ _ _ h => h) (Or.inl ⟨by rfl, fun w _ => by go_simp⟩) hS ?_
  try simp only [Act.put, nz0, nz1, nz2, nz3, nz4, nz5]
  refine wpAnyL_take (i := 32) (v := .pointer (some ⟨gm, 0, none⟩)) rfl (by kernel_rfl) (by kernel_rfl) (by kernel_rfl) (by kernel_rfl) (fun _ _ _ h => h) (Or.inl ⟨by rfl, fun w _ => by go_simp⟩) hS ?_
  try simp only [Act.put, nz0, nz1, nz2, nz3, nz4, nz5]
  refine wpAnyL_take (i := 33) (v := .pointer (some ⟨gm, 7, none⟩)) rfl (by kernel_rfl) (by kernel_rfl) (by kernel_rfl) (by kernel_rfl) (fun _ _ _ h => h) (Or.inl ⟨by rfl, fun w _ => by go_simp⟩) hS ?_
  try simp only [Act.put, nz0, nz1, nz2, nz3, nz4, nz5]
  refine wpAnyL_take (i := 34) (v := .string op) rfl (by kernel_rfl) (by kernel_rfl) (by kernel_rfl) (by kernel_rfl) (fun _ _ _ h => h) (Or.inl ⟨by rfl, fun w h => by have c := row_at h.1 7 _ rfl; go_simp⟩) hS ?_
  try simp only [Act.put, nz0, nz1, nz2, nz3, nz4, nz5]
  refine wpAnyL_take (i := 35) (v := .int .i64 N) rfl (by kernel_rfl) (by kernel_rfl) (by kernel_rfl) (by kernel_rfl) (fun _ _ _ h => h) (Or.inl ⟨by rfl, fun w _ => by go_simp⟩) hS ?_
  try simp only [Act.put, nz0, nz1, nz2, nz3, nz4, nz5]
  refine wpAnyL_take (i := 36) (v := .string (op.extract 0 N)) rfl (by kernel_rfl) (by kernel_rfl) (by kernel_rfl) (by kernel_rfl) (fun _ _ _ h => h) (Or.inl ⟨by rfl, fun w _ => by go_simp⟩) hS ?_
  try simp only [Act.put, nz0, nz1, nz2, nz3, nz4, nz5]
  refine wpAnyL_take (i := 37) (v := .agg #[.int .u32 ep, .int .u32 nx, .int .u64 (fi - op.size), .string (op.extract 0 N)]) rfl (by kernel_rfl) (by kernel_rfl) (by kernel_rfl) (by kernel_rfl) (fun _ _ _ h => h) (yields_buildL (by rfl) 65 #[(0, .tmp 12), (1, .tmp 23), (2, .tmp 34), (3, .tmp 40)] rfl [(0, .int .u32 ep), (1, .int .u32 nx), (2, .int .u64 (fi - op.size)), (3, .string (op.extract 0 N))] (by rfl) _ (built65L ep nx (fi - op.size) (op.extract 0 N))) hS ?_
  try simp only [Act.put, nz0, nz1, nz2, nz3, nz4, nz5]
  have own1 : MOwn w.drew (.slice ob M cb) bl := ho
  clear ho hr O1
  generalize w.drew = W0 at hS own1 ⊢
  refine wpAnyL_ready (rs := [38]) (by kernel_rfl) (by simp) ?_
  refine AllReadyL.cons rfl (fun K hK => ?_) AllReadyL.nil
  have ab : Below W0.heap.size W0 (W0.alloc (.cells #[.int .u32 ep, .int .u32 nx, .int .u64 (fi - op.size), .string (op.extract 0 N)] 65)) := (Below.refl _ _).alloc (Nat.le_refl _) _
  have rX : Row (W0.alloc (.cells #[.int .u32 ep, .int .u32 nx, .int .u64 (fi - op.size), .string (op.extract 0 N)] 65)) W0.heap.size (Ck.O.arr ⟨ep, nx, fi - op.size, op.extract 0 N⟩) 65 := Row.new _ _ _
  have own2 := own1.keep ab
  have hS2 : Row (W0.alloc (.cells #[.int .u32 ep, .int .u32 nx, .int .u64 (fi - op.size), .string (op.extract 0 N)] 65)) gm #[pd, .int .i64 a, .int .i64 z, .int .u32 ep, .int .u32 fs, .slice ob M cb, .int .i64 la, .string op, .int .u64 fi, .int .u64 du, .bool old] 49 ∧ Off (fun j => j = gm ∨ (Value.slice ob M cb).ownBlock = some j) w (W0.alloc (.cells #[.int .u32 ep, .int .u32 nx, .int .u64 (fi - op.size), .string (op.extract 0 N)] 65)) := ⟨hS.1.alloc _, hS.2.trans (Off.of_below (F := fun _ => False) ab) (fun _ q => q.elim)⟩
  have hrW : gm + 1 ≤ W0.heap.size := hS.1.lt
  have hab := ab.size
  have HWX : Hid (w.heap.size ≤ W0.heap.size) := hS.2.size
  go_simp
  refine hK.out _ _ (fun _ => hS2) ?_
  try simp only [Act.put, nz0, nz1, nz2, nz3, nz4, nz5]
  clear hS ab own1
  generalize W0.alloc (.cells #[.int .u32 ep, .int .u32 nx, .int .u64 (fi - op.size), .string (op.extract 0 N)] 65) = W1 at rX hS2 hab own2 ⊢
  generalize W0.heap.size = X at rX hab hrW HWX ⊢
  have hS := hS2
  clear hS2
  have HR : Hid (∀ ty, ∃ v' w', (Builtin.append_ #[47, 47] ty #[.slice ob M cb, .slice (some ⟨X, 0, none⟩) 1 1]).run Try.prog W1 = .ok v' w' ∧ (MOwn w' v' (bl ++ [⟨ep, nx, fi - op.size, op.extract 0 N⟩]) ∧ Off (fun j => (Value.slice ob M cb).ownBlock = some j) W1 w' ∧ ∀ j, v'.ownBlock = some j → (Value.slice ob M cb).ownBlock = some j ∨ W1.heap.size ≤ j)) := fun ty => MOwn.snoc own2 ty X ⟨ep, nx, fi - op.size, op.extract 0 N⟩ rX (by rw [HM.out]; omega)
  refine wpAnyL_ready (rs := [39]) (by kernel_rfl) (by simp) ?_
  refine AllReadyL.cons rfl (fun K hK => step_ofL rfl (Ck.wp_copy (.tmp 8) (.tmp 42) 47 rfl _ _ rfl rfl (fun ty => HR.out ty) ?_)) AllReadyL.nil
  rintro v15 w15 ⟨own15, o15, hv15⟩
  have R15 : Row w15 gm #[pd, .int .i64 a, .int .i64 z, .int .u32 ep, .int .u32 fs, .slice ob M cb, .int .i64 la, .string op, .int .u64 fi, .int .u64 du, .bool old] 49 := hS.1.off o15 (fun q => (HLT.out gm q).2 rfl)
  have O15 : Off (fun j => j = gm ∨ (Value.slice ob M cb).ownBlock = some j) w w15 := hS.2.trans o15 (fun j q => Or.inl (Or.inr q))
  have HNB : Hid (∀ j, v15.ownBlock = some j → (Value.slice ob M cb).ownBlock = some j ∨ w.heap.size ≤ j) := fun j hj => by
    rcases hv15 j hj with q | q
    · exact Or.inl q
    · have := HWX.out; exact Or.inr (by omega)
  have HNG : Hid (v15.ownBlock ≠ some gm) := fun q => by
    rcases hv15 gm q with r | r
    · exact (HLT.out gm r).2 rfl
    · omega
  obtain ⟨oc, cc, hf15⟩ := own15.form
  have hlen : (bl ++ [⟨ep, nx, fi - op.size, op.extract 0 N⟩] : List Ck.O).length = M + 1 := by rw [List.length_append, HM.out]; rfl
  rw [hlen] at hf15
  subst hf15
  have hS15 : Row w15 gm #[pd, .int .i64 a, .int .i64 z, .int .u32 ep, .int .u32 fs, .slice ob M cb, .int .i64 la, .string op, .int .u64 fi, .int .u64 du, .bool old] 49 ∧ Off (fun j => j = gm ∨ (Value.slice ob M cb).ownBlock = some j) w w15 := ⟨R15, O15⟩
  refine hK.out _ _ (fun _ => hS15) ?_
  try simp only [Act.put, nz0, nz1, nz2, nz3, nz4, nz5]
  clear hS HR own2 o15 R15 O15 rX hv15
  have hS := hS15
  clear hS15
  refine wpAnyL_ready (rs := [40]) (by kernel_rfl) (by simp) ?_
  refine AllReadyL.cons rfl (fun K hK => ?_) AllReadyL.nil
  go_simp
  refine hK.out _ _ (fun _ => hS) ?_
  try simp only [Act.put, nz0, nz1, nz2, nz3, nz4, nz5]
  refine wpAnyL_ready (rs := [41]) (by kernel_rfl) (by simp) ?_
  refine AllReadyL.cons rfl (fun K hK => ?_) AllReadyL.nil
  go_simp
  refine hK.out _ _ (fun _ => hS) ?_
  try simp only [Act.put, nz0, nz1, nz2, nz3, nz4, nz5]
  refine wpAnyL_ready (rs := [42]) (by kernel_rfl) (by simp) ?_
  refine AllReadyL.cons rfl (fun K hK => ?_) AllReadyL.nil
  have c9 := row_at hS.1 5 _ rfl
  have f9 := row_frozen hS.1 5
  have RR : Row (w15.setCell ⟨gm, 5, none⟩ (.slice oc (M + 1) cc)) gm #[pd, .int .i64 a, .int .i64 z, .int .u32 ep, .int .u32 fs, .slice oc (M + 1) cc, .int .i64 la, .string op, .int .u64 fi, .int .u64 du, .bool old] 49 := row_set hS.1 5 _
  have own9 : MOwn (w15.setCell ⟨gm, 5, none⟩ (.slice oc (M + 1) cc)) (.slice oc (M + 1) cc) (bl ++ [⟨ep, nx, fi - op.size, op.extract 0 N⟩]) := own15.off (Off.of_setCell (F := (· = gm)) _ _ _ rfl) (fun j q q2 => HNG.out (q2 ▸ q))
  have O9 := hS.2.trans (Off.of_setCell (F := (· = gm)) w15 ⟨gm, 5, none⟩ (.slice oc (M + 1) cc) rfl) (fun j q => Or.inl (Or.inl q))
  go_simp
  refine hK.out _ _ (fun q => absurd rfl q) ?_
  try simp only [Act.put, nz0, nz1, nz2, nz3, nz4, nz5]
  generalize w15.setCell ⟨gm, 5, none⟩ (.slice oc (M + 1) cc) = w16 at RR own9 O9 ⊢
  refine wpAnyL_done (by kernel_rfl) ?_ _
  clear hS c9 f9 own15 hlen
  have d6 := row_at RR 7 _ rfl
  have g6 := row_frozen RR 7
  have R17 : Row (w16.setCell ⟨gm, 7, none⟩ (.string (op.extract N op.size))) gm #[pd, .int .i64 a, .int .i64 z, .int .u32 ep, .int .u32 fs, .slice oc (M + 1) cc, .int .i64 la, .string (op.extract N op.size), .int .u64 fi, .int .u64 du, .bool old] 49 := row_set RR 7 _
  have own17 : MOwn (w16.setCell ⟨gm, 7, none⟩ (.string (op.extract N op.size))) (.slice oc (M + 1) cc) (bl ++ [⟨ep, nx, fi - op.size, op.extract 0 N⟩]) := own9.off (Off.of_setCell (F := (· = gm)) _ _ _ rfl) (fun j q q2 => HNG.out (q2 ▸ q))
  have O17 := O9.trans (Off.of_setCell (F := (· = gm)) w16 ⟨gm, 7, none⟩ (.string (op.extract N op.size)) rfl) (fun j q => Or.inl (Or.inl q))
  have HK : Hid (PP (w16.setCell ⟨gm, 7, none⟩ (.string (op.extract N op.size)))) := HPP2.out _ ⟨_, R17, own17, HNG.out, O17, HNB.out⟩
  clear R17 own17 O17
  go_wp2
  exact bodyPost_end (results_none rfl _ _ _) rfl ⟨rfl, HK.out⟩
end Go.Proofs.Ytgnedbagelhcbaa
namespace Go.Proofs.Ytgnedbagelhcbaa
open Go.ChangeShapes Go.WideShapes Go.ChangeAt Go.RowKit
set_option linter.unusedVariables false
set_option linter.unusedSimpArgs false
set_option maxRecDepth 20000
theorem RCut.refl {w : World} {gm : Nat} {pd vb : Value} {m : RLg} (hr : Row w gm (rlcells pd vb m) 49) (ho : MOwn w vb m.blocks) (hng : vb.ownBlock ≠ some gm) : RCut w gm pd vb m w := ⟨vb, hr, ho, hng, Off.refl _ _, fun j q => Or.inl q⟩
theorem RCut.below {w w1 w2 : World} {gm : Nat} {pd vb : Value} {m : RLg} (h : RCut w gm pd vb m w1) (b : Below w1.heap.size w1 w2) : RCut w gm pd vb m w2 := by
  obtain ⟨v, h1, h2, h3, h4, h5⟩ := h
  exact ⟨v, h1.below b h1.lt, h2.keep b, h3, h4.trans (Off.of_below (F := fun _ => False) b) (fun _ q => q.elim), h5⟩
theorem RCut.cut {w w1 : World} {gm : Nat} {pd vb : Value} {m : RLg} (h : RCut w gm pd vb m w1) (N : Nat) (hN : N ≤ m.open_.size) (hs : m.blocks.length ≤ 900) (hf : (m.open_.size : Int) ≤ m.fin ∧ m.fin ≤ 18446744073709551615) (hsz : m.open_.size ≤ 1000000000) :
    Calls Try.prog 48 #[.pointer (some ⟨gm, 0, none⟩), .int .i64 N] w1 fun e w' => e = .returned (.tuple #[]) ∧ RCut w gm pd vb (m.cut N) w' := by
  obtain ⟨v, h1, h2, h3, h4, h5⟩ := h
  refine (rcut_any w1 gm pd v m N h1 h2 h3 hN hs hf hsz).mono ?_
  rintro e w' ⟨rfl, v', k1, k2, k3, k4, k5⟩
  refine ⟨rfl, v', k1, k2, k3, h4.trans k4 (fun j q => ?_), fun j q => ?_⟩
  · rcases q with q | q
    · exact Or.inl (Or.inl q)
    · rcases h5 j q with q | q
      · exact Or.inl (Or.inr q)
      · exact Or.inr q
  · rcases k5 j q with q | q
    · exact h5 j q
    · exact Or.inr (Nat.le_trans h4.size q)
theorem RCut.set {w w1 : World} {gm : Nat} {pd vb : Value} {m m' : RLg} (h : RCut w gm pd vb m w1) (k : Nat) (x : Value) (hb : m'.blocks = m.blocks) (hc : ∀ v, (rlcells pd v m).setIfInBounds k x = rlcells pd v m') : RCut w gm pd vb m' (w1.setCell ⟨gm, k, none⟩ x) := by
  obtain ⟨v, h1, h2, h3, h4, h5⟩ := h
  have o : Off (· = gm) w1 (w1.setCell ⟨gm, k, none⟩ x) := Off.of_setCell _ _ _ rfl
  refine ⟨v, ?_, by rw [hb]; exact h2.off o (fun j q q2 => h3 (q2 ▸ q)), h3, h4.trans o (fun j q => Or.inl (Or.inl q)), h5⟩
  have := row_set h1 k x
  rw [hc] at this; exact this
theorem RCut.row {w w1 : World} {gm : Nat} {pd vb : Value} {m : RLg} (h : RCut w gm pd vb m w1) : ∃ oa cap, Row w1 gm (rlcells pd (.slice oa m.blocks.length cap) m) 49 := by
  obtain ⟨v, h1, h2, _⟩ := h
  obtain ⟨oa, cap, rfl⟩ := h2.form
  exact ⟨oa, cap, h1⟩
def RLg.more (m : RLg) (F : ByteArray) : RLg := { m with open_ := m.open_ ++ F, fin := m.fin + F.size }
def RLg.cutN (m : RLg) : Nat → RLg
  | 0 => m
  | k + 1 => (m.cutN k).cut 214
def RLg.app (m : RLg) (F : ByteArray) : RLg := (m.more F).cutN ((m.open_ ++ F).size / 214)
theorem cutN_open (m : RLg) : ∀ k, k * 214 ≤ m.open_.size → (m.cutN k).open_.size = m.open_.size - k * 214
  | 0, _ => by show m.open_.size = _; omega
  | k + 1, h => by
    have e := cutN_open m k (by omega)
    show ((m.cutN k).open_.extract 214 (m.cutN k).open_.size).size = _
    rw [ByteArray.size_extract, e]; omega
theorem cutN_len (m : RLg) : ∀ k, (m.cutN k).blocks.length = m.blocks.length + k
  | 0 => rfl
  | k + 1 => by show ((m.cutN k).blocks ++ [_]).length = _; rw [List.length_append, cutN_len m k]; rfl
theorem cutN_fin (m : RLg) : ∀ k, (m.cutN k).fin = m.fin
  | 0 => rfl
  | k + 1 => cutN_fin m k
def openAt (w : World) (gm : Nat) : Nat := match w.cell? ⟨gm, 7, none⟩ with
  | some (.string s) => s.size
  | _ => 0
theorem RCut.openAt {w w1 : World} {gm : Nat} {pd vb : Value} {m : RLg} (h : RCut w gm pd vb m w1) : openAt w1 gm = m.open_.size := by
  obtain ⟨v, h1, _⟩ := h
  have c := row_at h1 7 (.string m.open_) rfl
  unfold Go.Proofs.Ytgnedbagelhcbaa.openAt
  rw [c]
def fullM (m : RLg) (F : ByteArray) : Bool := decide (m.size < (m.blocks.length : Int) + wantN ((m.open_.size : Int) + F.size))
def RAppd (w : World) (gm : Nat) (pd vb : Value) (m : RLg) (s : ByteArray) (e : Ending) (w' : World) : Prop :=
  (okF s = false → e = .returned (.tuple #[.int .u64 0, .int .i64 1]) ∧ Below w.heap.size w w') ∧
  (okF s = true → fullM m (frS s) = true → e = .returned (.tuple #[.int .u64 0, .int .i64 5]) ∧ Below w.heap.size w w') ∧
  (okF s = true → fullM m (frS s) = false → e = .returned (.tuple #[.int .u64 m.fin, .int .i64 0]) ∧ RCut w gm pd vb (m.app (frS s)) w')
set_option maxHeartbeats 8000000 in
theorem rapp_any (w : World) (gm : Nat) (pd vb : Value) (m : RLg) (s : ByteArray) (hr : Row w gm (rlcells pd vb m) 49) (ho : MOwn w vb m.blocks) (hng : vb.ownBlock ≠ some gm) (hs : s.size ≤ maxLen) (hsl : m.blocks.length ≤ 800) (hop : m.open_.size ≤ 10000) (hf : (m.open_.size : Int) ≤ m.fin ∧ m.fin ≤ 9223372036854775807) :
    Calls Try.prog 14 #[.pointer (some ⟨gm, 0, none⟩), .string s] w fun e w' => RAppd w gm pd vb m s e w' := by
  obtain ⟨PP, HPP⟩ : ∃ PP : Ending → World → Prop, Hid (PP = fun e w' => RAppd w gm pd vb m s e w') := ⟨_, rfl⟩
  rw [← HPP.out]
  have HFR : Hid (∀ w, Calls Try.prog 47 #[.string s] w fun ex w' => ex = .returned (.string (frS s)) ∧ Below w.heap.size w w') := fun w => rframe_any s w hs
  cases hk : okF s with
  | false =>
    have HK : Hid (∀ w', Below w.heap.size w w' → PP (.returned (.tuple #[.int .u64 0, .int .i64 1])) w') := fun w' h => by
      rw [HPP.out]
      exact ⟨fun _ => ⟨rfl, h⟩, (fun h' => by rw [hk] at h'; cases h'), (fun h' => by rw [hk] at h'; cases h')⟩
    rw [frS_no hk] at HFR
    clear hk hr ho
    go_enter Try.func14, Try.ntmps14
    go_wp2_with (go_at_call 47; refine Calls.mono (HFR.out _) ?_; clear HFR; rintro e w1 ⟨rfl, h1⟩)
    try go_ret
    exact HK.out _ h1
  | true =>
    have hF := frS_size hk
    have hFne := str_ne (frS s) (by omega)
    have hFne1 := hFne.1
    have hFne2 := hFne.2
    clear hFne
    have HK5 : Hid (fullM m (frS s) = true → ∀ w', Below w.heap.size w w' → PP (.returned (.tuple #[.int .u64 0, .int .i64 5])) w') := fun hq w' h => by
      rw [HPP.out]
      exact ⟨(fun h' => by rw [hk] at h'; cases h'), fun _ _ => ⟨rfl, h⟩, (fun _ h' => by rw [hq] at h'; cases h')⟩
    have HK0 : Hid (fullM m (frS s) = false → ∀ w', RCut w gm pd vb (m.app (frS s)) w' → PP (.returned (.tuple #[.int .u64 m.fin, .int .i64 0])) w') := fun hq w' h => by
      rw [HPP.out]
      exact ⟨(fun h' => by rw [hk] at h'; cases h'), (fun _ h' => by rw [hq] at h'; cases h'), fun _ _ => ⟨rfl, h⟩⟩
    clear HPP hk hs
    have HRC := RCut.refl hr ho hng
    generalize frS s = F at *
    obtain ⟨T, HT⟩ : ∃ T, Hid (m.open_.size + F.size = T) := ⟨_, rfl⟩
    have HTb : T ≤ 10406 := by rw [← HT.out]; omega
    have HWT : Hid (fullM m F = decide (m.size < (m.blocks.length : Int) + wantN (T : Int))) := by
      have : ((m.open_.size : Int) + F.size) = ((T : Nat) : Int) := by rw [← HT.out]; omega
      show decide _ = _
      rw [this]
    have HFI : Hid (∀ k, k * 214 ≤ T → RCut w gm pd vb ((m.more F).cutN k) w → True) := fun _ _ _ => trivial
    have v1 : IntKind.i64.wrap ((m.open_.size : Int) + F.size) = T := by rw [IntKind.wrap_i64, ← HT.out]; omega
    obtain ⟨ob, cb, hv⟩ := ho.form
    subst hv
    have hr9 := hr
    unfold rlcells at hr
    have c7 := row_at hr 7 _ rfl
    go_enter Try.func14, Try.ntmps14
    go_upto_region 4 with (go_at_call 47; refine Calls.mono (HFR.out _) ?_; clear HFR; rintro e w1 ⟨rfl, h1⟩; have s0 := HRC.below h1)
    obtain ⟨oa1, cp1, r1⟩ := s0.row
    unfold rlcells at r1
    have d7 := row_at r1 7 _ rfl
    clear c7
    go_upto_region 6 with fail
    clear d7
    go_wp2
    go_loopw [7, 8] (fun nd n wq => ∃ (k : Nat), (k = 0 ∨ 214 * k < T + 214) ∧ nd = .int .i64 k ∧ n = .int .i64 ((T : Int) - 214 * k) ∧ wq = w1) (fun _ n _ => (intOf n).toNat)
    case atStart => exact ⟨0, Or.inl rfl, rfl, by simp, by first | rfl | trivial⟩
    case round =>
      obtain ⟨k, hk, rfl, rfl, rfl⟩ := hrel
      by_cases hpos : (0 : Int) < (T : Int) - 214 * k
      · have hw1 : IntKind.i64.wrap ((k : Int) + 1) = ((k + 1 : Nat) : Int) := by rw [IntKind.wrap_i64]; omega
        have hw2 : IntKind.i64.wrap ((T : Int) - 214 * k - 214) = (T : Int) - 214 * ((k + 1 : Nat) : Int) := by rw [IntKind.wrap_i64]; omega
        go_wp2
        go_roundw
        case rel => refine ⟨k + 1, Or.inr (by omega), ?_, ?_, ?_⟩ <;> first | rfl | trivial | go_num
        case measure => simp [intOf]; omega
      · have hkw : (k : Int) = wantN (T : Int) := by unfold wantN; omega
        have c5 := row_at r1 5 _ rfl
        have c2 := row_at r1 2 _ rfl
        obtain ⟨LB, HLB⟩ : ∃ LB, Hid (m.blocks.length = LB) := ⟨_, rfl⟩
        have hLB : LB ≤ 800 := by rw [← HLB.out]; exact hsl
        have v2 : IntKind.i64.wrap ((LB : Int) + k) = (LB : Int) + k := by rw [IntKind.wrap_i64]; omega
        rw [HLB.out] at HWT
        rw [← hkw] at HWT
        clear hkw
        by_cases hfull : m.size < (LB : Int) + k
        · have hq : fullM m F = true := by rw [HWT.out]; exact decide_eq_true hfull
          have HK : Hid _ := HK5.out hq
          have c5' : wr.cell? ⟨gm, 5, none⟩ = some (.slice oa1 LB cp1) := by rw [← HLB.out]; exact c5
          clear HK5 HK0 HWT hq c5 r1 hr9 hr
          go_upto_region 9 with fail
          go_quiet (fail)
          go_wp2
          try go_ret
          exact HK.out _ (below_drewN h1 _)
        · have hq : fullM m F = false := by rw [HWT.out]; exact decide_eq_false hfull
          have HK : Hid _ := HK0.out hq
          have c5' : wr.cell? ⟨gm, 5, none⟩ = some (.slice oa1 LB cp1) := by rw [← HLB.out]; exact c5
          have v3 : IntKind.u64.wrap (F.size : Int) = F.size := by rw [IntKind.wrap_u64]; omega
          have v4 : IntKind.u64.wrap (m.fin + F.size) = m.fin + F.size := by rw [IntKind.wrap_u64]; omega
          clear HK5 HK0 HWT hq c5 hr9 hr
          go_upto_region 9 with fail
          go_quiet (fail)
          have s0b := s0.below (below_drewN (Below.refl wr.heap.size wr) nq)
          clear c5' c2 s0 r1 h1
          generalize wr.drewN nq = wd at s0b ⊢
          obtain ⟨oad, cpd, rd⟩ := s0b.row
          unfold rlcells at rd
          have c8 := row_at rd 8 _ rfl
          have g8 := row_frozen rd 8
          have s1 : RCut w gm pd (.slice ob m.blocks.length cb) { m with fin := m.fin + F.size } (wd.setCell ⟨gm, 8, none⟩ (.int .u64 (m.fin + F.size))) := s0b.set 8 _ rfl (fun v => rfl)
          go_upto_region 13 with fail
          clear c8 g8 s0b rd
          generalize wd.setCell ⟨gm, 8, none⟩ (.int .u64 (m.fin + F.size)) = w3 at s1 ⊢
          obtain ⟨oa3, cp3, r3⟩ := s1.row
          unfold rlcells at r3
          have c7 := row_at r3 7 _ rfl
          have g7 := row_frozen r3 7
          have v5 : m.open_.size + F.size ≤ 9223372036854775807 := by omega
          have s2 : RCut w gm pd (.slice ob m.blocks.length cb) (m.more F) (w3.setCell ⟨gm, 7, none⟩ (.string (m.open_ ++ F))) := s1.set 7 _ rfl (fun v => rfl)
          clear s1 r3
          go_upto_region 14 with fail
          clear c7 g7
          generalize w3.setCell ⟨gm, 7, none⟩ (.string (m.open_ ++ F)) = w4 at s2 ⊢
          have hmT : (m.more F).open_.size = T := by show (m.open_ ++ F).size = T; rw [ByteArray.size_append]; exact HT.out
          have hmf : (m.more F).fin = m.fin + F.size := rfl
          have hmb : (m.more F).blocks.length = LB := HLB.out
          have HAP : Hid (m.app F = (m.more F).cutN (T / 214)) := by show (m.more F).cutN ((m.open_ ++ F).size / 214) = _; rw [ByteArray.size_append, HT.out]
          rw [HAP.out] at HK
          clear HAP
          have hmF := hf
          generalize m.more F = mm at s2 hmT hmf hmb HK
          go_wp2
          go_loopw [68] (fun _ wq => ∃ k, k * 214 ≤ T ∧ RCut w gm pd (.slice ob m.blocks.length cb) (mm.cutN k) wq) (fun _ wq => openAt wq gm)
          case atStart => exact ⟨0, by omega, s2⟩
          case round =>
            clear s2
            obtain ⟨q, hqT, hS⟩ := hrel
            have ho1 := cutN_open mm q (by rw [hmT]; exact hqT)
            rw [hmT] at ho1
            have hl1 := cutN_len mm q
            have hf1 := cutN_fin mm q
            have hoA := hS.openAt
            obtain ⟨oa5, cp5, r5⟩ := hS.row
            unfold rlcells at r5
            have e7 := row_at r5 7 _ rfl
            by_cases hge : 214 ≤ T - q * 214
            · have hge' : ¬ ((T - q * 214 : Nat) : Int) < 214 := by omega
              have HCT : Hid (Calls Try.prog 48 #[.pointer (some ⟨gm, 0, none⟩), .int .i64 214] wr fun e w' => e = .returned (.tuple #[]) ∧ RCut w gm pd (.slice ob m.blocks.length cb) (mm.cutN (q + 1)) w') := hS.cut 214 (by omega) (by rw [hl1, hmb]; omega) (by rw [ho1, hf1, hmf]; have := HT.out; omega) (by omega)
              have ho2 := cutN_open mm (q + 1) (by rw [hmT]; omega)
              rw [hmT] at ho2
              have hsz : ((mm.cutN q).open_.size : Int) = ((T - q * 214 : Nat) : Int) := by rw [ho1]
              generalize (mm.cutN q).open_ = oq at e7 hsz
              clear hS r5
              go_wp2_with (go_at_call 48; refine Calls.mono HCT.out ?_; clear HCT; rintro e w6 ⟨rfl, s6⟩)
              go_roundw
              case rel => exact ⟨q + 1, by omega, s6⟩
              case measure => rw [s6.openAt, hoA, ho1, ho2]; omega
            · have hge' : ((T - q * 214 : Nat) : Int) < 214 := by omega
              have hqe : q = T / 214 := by omega
              rw [← hqe] at HK
              have hsz : ((mm.cutN q).open_.size : Int) = ((T - q * 214 : Nat) : Int) := by rw [ho1]
              have HKK : Hid _ := HK.out wr hS
              generalize (mm.cutN q).open_ = oq at e7 hsz
              clear hS r5 HK
              go_wp2
              try go_ret
              exact HKK.out
end Go.Proofs.Ytgnedbagelhcbaa
namespace Go.Proofs.Ytgnedbagelhcbaa
open Go.ChangeShapes Go.WideShapes Go.ChangeAt Go.RowKit
set_option linter.unusedVariables false
set_option linter.unusedSimpArgs false
set_option maxRecDepth 20000
def rwrS (a z : Int) : List Ck.O → RD → Int × RD
  | [], d => (0, d)
  | c :: cs, d => if (rwrite d (placeV a z c.num) (blkC c)).1 = 0 then rwrS a z cs (rwrite d (placeV a z c.num) (blkC c)).2 else rwrite d (placeV a z c.num) (blkC c)
theorem rwrS_nil (a z : Int) (d : RD) : rwrS a z [] d = (0, d) := rfl
theorem rwrS_cons (a z : Int) (c : Ck.O) (cs : List Ck.O) (d : RD) : rwrS a z (c :: cs) d = if (rwrite d (placeV a z c.num) (blkC c)).1 = 0 then rwrS a z cs (rwrite d (placeV a z c.num) (blkC c)).2 else rwrite d (placeV a z c.num) (blkC c) := rfl
theorem rwrS_one (a z : Int) (c : Ck.O) (d : RD) : rwrS a z [c] d = rwrite d (placeV a z c.num) (blkC c) := by
  rw [rwrS_cons, rwrS_nil]
  by_cases h : (rwrite d (placeV a z c.num) (blkC c)).1 = 0
  · rw [if_pos h]; exact Prod.ext h.symm rfl
  · rw [if_neg h]
theorem rwrS_append (a z : Int) (l2 : List Ck.O) : ∀ (l1 : List Ck.O) (d : RD), rwrS a z (l1 ++ l2) d = if (rwrS a z l1 d).1 = 0 then rwrS a z l2 (rwrS a z l1 d).2 else rwrS a z l1 d
  | [], d => by rw [List.nil_append, rwrS_nil]; rfl
  | c :: l1, d => by
    rw [List.cons_append, rwrS_cons, rwrS_cons]
    by_cases h : (rwrite d (placeV a z c.num) (blkC c)).1 = 0
    · simp only [if_pos h]; exact rwrS_append a z l2 l1 _
    · simp only [if_neg h]
def rlayR (a z : Int) (cs : List Ck.O) (d : RD) : Int × RD := if cs = [] then (0, d) else if (rwrS a z cs d).1 = 0 then rsync (rwrS a z cs d).2 else rwrS a z cs d
theorem rcount_ops (d : RD) : (rcount d).2.ops = d.ops + 1 := by
  unfold rcount
  split
  · rfl
  · split <;> rfl
theorem rwrote_ops (d : RD) (b : Int) (x : List Int) : ∀ k, (d.wrote b x k).ops = d.ops
  | 0 => rfl
  | k + 1 => rwrote_ops d b x k
theorem rwrite_ops1 (d : RD) (b : Int) (x : List Int) : (rwrite d b x).2.ops ≤ d.ops + 1 := by
  have hc := rcount_ops d
  unfold rwrite
  split
  · simp; omega
  · split
    · simp; omega
    · split
      · show ((rcount d).2.wrote b x 4).ops ≤ _
        rw [rwrote_ops]; omega
      · omega
theorem rwrS_ops (a z : Int) : ∀ (cs : List Ck.O) (d : RD), (rwrS a z cs d).2.ops ≤ d.ops + cs.length
  | [], d => by simp [rwrS]
  | c :: cs, d => by
    have h := rwrite_ops1 d (placeV a z c.num) (blkC c)
    unfold rwrS
    split
    · have := rwrS_ops a z cs (rwrite d (placeV a z c.num) (blkC c)).2
      simp; omega
    · simp; omega
theorem RDAt.grow {w : World} {r : Nat} {R : RD} {vs vp vf : Value} {N M : Nat} (h : RDAt w r R vs vp vf N) (hm : N ≤ M) (hM : M < 1000000000) : RDAt w r R vs vp vf M := { h with bound := Nat.le_trans h.bound hm, big := hM }
theorem RStep.refl {w : World} {r : Nat} {R : RD} {vs vp vf : Value} {N : Nat} (h : RDAt w r R vs vp vf N) : RStep w r vs vp vf R N w := ⟨vs, vp, vf, h, Off.refl _ _, fun j q => Or.inl q⟩
theorem RStep.write {w wa : World} {r : Nat} {R : RD} {vs vp vf vs' vp' vf' : Value} {N : Nat} (h1 : RDAt wa r R vs' vp' vf' N) (h2 : Off (rfoot r vs vp vf) w wa) (h3 : ∀ j, rfoot r vs' vp' vf' j → rfoot r vs vp vf j ∨ w.heap.size ≤ j) (ho : R.ops < 9223372036854775806) (b : Int) (x : List Int) (hx : x.length = 256) (xb : Bytes x) (hN : N + 5 < 1000000000) :
    Calls Try.prog 75 #[.pointer (some ⟨r, 0, none⟩), .int .i64 b, .agg (bs x)] wa fun e w' => e = .returned (.int .i64 (rwrite R b x).1) ∧ RStep w r vs vp vf (rwrite R b x).2 (N + 4) w' ∧ Off (rfoot r vs' vp' vf') wa w' := by
  refine (rwrite_any h1 ho b x hx xb hN).mono ?_
  rintro e w' ⟨rfl, v1, v2, v3, k1, k2, k3⟩
  refine ⟨rfl, ⟨v1, v2, v3, k1, h2.trans k2 h3, fun j hj => ?_⟩, k2⟩
  rcases k3 j hj with q | q
  · exact h3 j q
  · exact Or.inr (Nat.le_trans h2.size q)
theorem RStep.grow {w wa : World} {r : Nat} {R : RD} {vs vp vf : Value} {N M : Nat} (h : RStep w r vs vp vf R N wa) (hm : N ≤ M) (hM : M < 1000000000) : RStep w r vs vp vf R M wa := by
  obtain ⟨v1, v2, v3, h1, h2, h3⟩ := h
  exact ⟨v1, v2, v3, h1.grow hm hM, h2, h3⟩
theorem RStep.sync {w wa : World} {r : Nat} {R : RD} {vs vp vf : Value} {N : Nat} (h : RStep w r vs vp vf R N wa) (ho : R.ops < 9223372036854775806) :
    Calls Try.prog 76 #[.pointer (some ⟨r, 0, none⟩)] wa fun e w' => e = .returned (.int .i64 (rsync R).1) ∧ RStep w r vs vp vf (rsync R).2 N w' := by
  obtain ⟨v1, v2, v3, h1, h2, h3⟩ := h
  refine (rsync_any h1 ho).mono ?_
  rintro e w' ⟨rfl, u1, u2, u3, k1, k2, k3⟩
  refine ⟨rfl, u1, u2, u3, k1, h2.trans k2 h3, fun j hj => ?_⟩
  rcases k3 j hj with q | q
  · exact h3 j q
  · exact Or.inr (Nat.le_trans h2.size q)
set_option maxHeartbeats 8000000 in
theorem rlay_any (w : World) (gm r : Nat) (vb vs vp vf : Value) (l : RLg) (d : RD) (N f t : Nat) (hr : Row w gm (rlcells (.pointer (some ⟨r, 0, none⟩)) vb l) 49) (ho : MOwn w vb l.blocks) (hD : RDAt w r d vs vp vf N) (hfg : ¬ rfoot r vs vp vf gm) (hfv : ∀ j, vb.ownBlock = some j → ¬ rfoot r vs vp vf j)
    (hok : ∀ c ∈ (l.blocks.drop f).take (t - f), c.Ok) (hf : f ≤ t) (ht : t ≤ l.blocks.length) (hs : l.blocks.length ≤ 100000) (ha : 0 ≤ l.at_ ∧ l.at_ ≤ 4294967295) (hz : 1 ≤ l.size ∧ l.size ≤ 4294967295) (hop : d.ops + l.blocks.length + 2 < 9223372036854775806) (hN : N + 4 * l.blocks.length + 9 < 1000000000) :
    Calls Try.prog 50 #[.pointer (some ⟨gm, 0, none⟩), .int .i64 f, .int .i64 t] w fun e w' => e = .returned (.int .i64 (rlayR l.at_ l.size ((l.blocks.drop f).take (t - f)) d).1) ∧ RStep w r vs vp vf (rlayR l.at_ l.size ((l.blocks.drop f).take (t - f)) d).2 (N + 4 * (t - f)) w' := by
  obtain ⟨cs, HCS⟩ : ∃ x, Hid ((l.blocks.drop f).take (t - f) = x) := ⟨_, rfl⟩
  rw [HCS.out] at hok ⊢
  have hcl : cs.length = t - f := by rw [← HCS.out, List.length_take, List.length_drop]; omega
  have hcat : ∀ k, k < t - f → cs[k]? = l.blocks[f + k]? := fun k hk => by rw [← HCS.out, List.getElem?_take, if_pos hk, List.getElem?_drop]
  obtain ⟨PP, HPP⟩ : ∃ PP : Ending → World → Prop, Hid (PP = fun e w' => e = .returned (.int .i64 (rlayR l.at_ l.size cs d).1) ∧ RStep w r vs vp vf (rlayR l.at_ l.size cs d).2 (N + 4 * (t - f)) w') := ⟨_, rfl⟩
  rw [← HPP.out]
  have hz1 := zero56
  by_cases hft : f = t
  · have HK : Hid (PP (.returned (.int .i64 0)) w) := by
      show PP _ _
      rw [HPP.out]
      have hc0 : cs = [] := List.eq_nil_of_length_eq_zero (by omega)
      have e0 : rlayR l.at_ l.size cs d = (0, d) := by unfold rlayR; rw [if_pos hc0]
      rw [e0]
      exact ⟨rfl, (RStep.refl hD).grow (by omega) (by omega)⟩
    have hft' : ((f : Int) == (t : Int)) = true := by simp [hft]
    have hft2 : (f : Int) = (t : Int) := by omega
    clear hft hr ho hD
    go_enter Try.func50, Try.ntmps50
    go_wp2
    try go_ret
    exact HK.out
  have hft2 : ¬ (f : Int) = (t : Int) := by omega
  have hft3 : ((f : Int) == (t : Int)) = false := by simp; omega
  obtain ⟨m, Hm⟩ : ∃ m, Hid (t - f = m) := ⟨_, rfl⟩
  have hm1 : 1 ≤ m := by rw [← Hm.out]; omega
  have htm : t = f + m := by rw [← Hm.out]; omega
  rw [Hm.out] at hcl hcat HPP
  obtain ⟨M, HM⟩ : ∃ M, Hid (l.blocks.length = M) := ⟨_, rfl⟩
  have hmM : f + m ≤ M := by rw [← Hm.out, ← HM.out]; omega
  obtain ⟨g, off, cb, cur, rfl, hg, hcap, hcm, hcsz, hcur⟩ : ∃ g off cap cur, vb = .slice (some ⟨g, off, none⟩) M cap ∧ Row w g cur 65 ∧ M ≤ cap ∧ cap ≤ maxLen ∧ off + cap * 4 ≤ cur.size ∧ ∀ j u, (Ck.flat l.blocks)[j]? = some u → cur[off + j]? = some u := by
    rcases ho with ⟨_, q⟩ | ⟨g, off, cap, cur, q1, q2, q3, q4, q5, q6⟩
    · rw [q] at HM; have := HM.out; simp at this; omega
    · rw [HM.out] at q1 q3; exact ⟨g, off, cap, cur, q1, q2, q3, q4, q5, q6⟩
  rw [HM.out] at ht hs hop hN
  have hgf : ¬ rfoot r vs vp vf g := hfv g rfl
  unfold rlcells at hr
  have HB0 : Hid (RStep w r vs vp vf d (N + 4 * 0) w) := RStep.refl hD
  have HROW : Hid (∀ wr, Off (rfoot r vs vp vf) w wr → Row wr gm #[.pointer (some ⟨r, 0, none⟩), .int .i64 l.at_, .int .i64 l.size, .int .u32 l.ep, .int .u32 l.first, .slice (some ⟨g, off, none⟩) M cb, .int .i64 l.lasting, .string l.open_, .int .u64 l.fin, .int .u64 l.dur, .bool l.old] 49 ∧ Row wr g cur 65) := fun wr o => ⟨hr.off o hfg, hg.off o hgf⟩
  have HPK : Hid (∀ (c : Ck.O) (w : World), c.Ok → Calls Try.prog 63 #[.agg #[.int .u32 c.ep, .int .u32 c.num, .int .u64 c.off, .string c.txt]] w fun ex w' => ex = .returned (.tuple #[.agg (bs (blkC c)), .bool true]) ∧ Below w.heap.size w w') := fun c w hc => by
    have h1 : okC c.txt = true := hc.txt
    have h2 : 1 ≤ c.txt.size ∧ c.txt.size ≤ 214 := by have h3 := h1; unfold okC at h3; exact of_decide_eq_true h3
    have := rpack_any c.ep c.num c.off c.txt w hc.ep hc.num hc.off (by unfold maxLen; omega)
    have e1 : packV c.ep c.num c.off c.txt = blkC c := by unfold packV; rw [h1]; rfl
    rw [e1, h1] at this
    exact this
  have hlr := hr.lt
  have hlg := hg.lt
  clear hr ho hg hfv
  have Htm : Hid (t = f + m) := by show t = f + m; omega
  clear htm
  go_enter Try.func50, Try.ntmps50
  go_wp2
  go_loopw [7] (fun i wr => ∃ (k q : Nat), k ≤ m ∧ Hid (q = f + k) ∧ i = .int .i64 (q : Int) ∧ (rwrS l.at_ l.size (cs.take k) d).1 = 0 ∧ RStep w r vs vp vf (rwrS l.at_ l.size (cs.take k) d).2 (N + 4 * k) wr) (fun i _ => t - (intOf i).toNat)
  case atStart => exact ⟨0, f, by omega, rfl, rfl, rfl, HB0.out⟩
  case round =>
    clear HB0
    obtain ⟨k, q, hk, Hq, rfl, hE0, hC⟩ := hrel
    have hqk : q < M ∨ ¬ k < m := by have := Hq.out; omega
    obtain ⟨vs', vp', vf', hD', hO', hF'⟩ := hC
    obtain ⟨b0, bg⟩ := HROW.out _ hO'
    by_cases hkm : k < m
    · obtain ⟨c, hc0⟩ : ∃ c, l.blocks[q]? = some c := ⟨l.blocks[q]'(by rw [HM.out]; omega), List.getElem?_eq_getElem (by rw [HM.out]; omega)⟩
      have hck : cs[k]? = some c := by rw [hcat k hkm, ← Hq.out]; exact hc0
      have hcOk := hok c (List.mem_of_getElem? hck)
      have hfl : ∀ j u, c.cells[j]? = some u → cur[off + q * 4 + j]? = some u := fun j u hj => by
        have hj4 : j < 4 := by have := (List.getElem?_eq_some_iff.1 hj).1; exact this
        rw [Nat.add_assoc]
        exact hcur _ u (by rw [Ck.flat_at l.blocks q j c hc0 hj4]; exact hj)
      have hnum := hfl 1 (.int .u32 c.num) rfl
      have hSt : rwrS l.at_ l.size (cs.take (k + 1)) d = rwrite (rwrS l.at_ l.size (cs.take k) d).2 (placeV l.at_ l.size c.num) (blkC c) := by
        rw [List.take_add_one, hck]
        show rwrS l.at_ l.size (cs.take k ++ [c]) d = _
        rw [rwrS_append, if_pos hE0, rwrS_one]
      have hops := rwrS_ops l.at_ l.size (cs.take k) d
      have hlk : (cs.take k).length = k := by rw [List.length_take]; omega
      rw [hlk] at hops
      generalize rwrS l.at_ l.size (cs.take k) d = rk at hE0 hD' hSt hops
      obtain ⟨E0, dk⟩ := rk
      simp only at hE0 hD' hSt hops
      have HWR : Hid (∀ wx, Below wr.heap.size wr wx → Calls Try.prog 75 #[.pointer (some ⟨r, 0, none⟩), .int .i64 (placeV l.at_ l.size c.num), .agg (bs (blkC c))] wx fun e w' => e = .returned (.int .i64 (rwrite dk (placeV l.at_ l.size c.num) (blkC c)).1) ∧ RStep w r vs vp vf (rwrite dk (placeV l.at_ l.size c.num) (blkC c)).2 (N + 4 * k + 4) w' ∧ Off (rfoot r vs' vp' vf') wx w') := fun wx hb =>
        RStep.write (hD'.below hb) (hO'.trans (Off.of_below (F := fun _ => False) hb) (fun _ q => q.elim)) hF' (by omega) _ _ (blkC_length c) (blkC_bytes c) (by omega)
      have HPC : Hid _ := fun w => HPK.out c w hcOk
      have HFL : Hid (∀ j, rfoot r vs' vp' vf' j → j < wr.heap.size) := fun j hj => hD'.lt hj
      have hng : ¬ rfoot r vs' vp' vf' gm := fun q => (hF' gm q).elim hfg (fun q => by omega)
      have hngb : ¬ rfoot r vs' vp' vf' g := fun q => (hF' g q).elim hgf (fun q => by omega)
      have hVl := blkC_length c
      generalize blkC c = V at hSt HWR HPC hVl
      have hVb : (bs V).size = 256 := by rw [bs_size]; exact hVl
      have hzw : IntKind.u32.wrap l.size = l.size := by rw [IntKind.wrap_u32]; omega
      have hz0 : ¬ l.size = 0 := by omega
      obtain ⟨PM, hPM, hPM2⟩ : ∃ PM : Int, c.num.tmod l.size = PM ∧ (0 ≤ PM ∧ PM ≤ 4294967295) ∧ placeV l.at_ l.size c.num = l.at_ + PM := ⟨_, rfl, by
        have := hcOk.num
        rw [Int.tmod_eq_emod_of_nonneg this.1]
        have h1 := Int.emod_nonneg c.num hz0
        have h2 := Int.emod_lt_of_pos c.num (show 0 < l.size by omega)
        exact ⟨⟨h1, by omega⟩, rfl⟩⟩
      have hPw : IntKind.i64.wrap PM = PM := by rw [IntKind.wrap_i64]; omega
      obtain ⟨PL, HPLe⟩ : ∃ PL, Hid (placeV l.at_ l.size c.num = PL) := ⟨_, rfl⟩
      have hPLw : IntKind.i64.wrap (l.at_ + PM) = PL := by rw [← HPLe.out, hPM2.2, IntKind.wrap_i64]; omega
      rw [HPLe.out] at hSt HWR
      generalize rwrite dk PL V = rw1 at hSt HWR
      obtain ⟨E, d2⟩ := rw1
      have hkm' : (q : Int) < (t : Int) := by have := Hq.out; have := Htm.out; omega
      have hw7 : IntKind.i64.wrap ((q : Int) + 1) = (q : Int) + 1 := by rw [IntKind.wrap_i64]; omega
      have hix1 : (q : Int) < (M : Int) := by omega
      have hix0 : (0 : Int) ≤ (q : Int) := by omega
      have d5 := row_at b0 5 _ rfl
      have hcc : ∀ j u, c.cells[j]? = some u → wr.cell? ((⟨g, off + q * 4, none⟩ : Addr).add j) = some u := fun j u hj => by
        rw [Addr.add_mid, cell_of_row wr g _ _ _ _ bg]; exact hfl j u hj
      have tl : Hid (1 = 1) := rfl
      clear hPM2 HPLe
      go_upto_region 7 with (first
        | (have hh := tl; clear hh tl; refine load_any_g rfl 65 (.tmp 26) rfl (⟨g, off + q * 4, none⟩ : Addr) rfl c.cells _ hcc Try.underlying65 rfl Ck.size65 ?_)
        | (go_at_call 63; refine Calls.mono (HPC.out _) ?_; clear HPC; rintro e w8 ⟨rfl, h8⟩
           have t0 := (b0.below h8 b0.lt).alloc (.cells (bs (zs 256)) 56)
           have tg := (bg.below h8 bg.lt).alloc (.cells (bs (zs 256)) 56)
           have t9 : Row (w8.alloc (.cells (bs (zs 256)) 56)) w8.heap.size (bs (zs 256)) 56 := Row.new _ _ _
           have tb0 := h8
           have tb := tb0.alloc tb0.size (.cells (bs (zs 256)) 56)
           have hl0 := (b0.below h8 b0.lt).lt
           have hlg2 := (bg.below h8 bg.lt).lt)
        | (refine store_row rfl 56 (.tmp 8) (.tmp 29) rfl w8.heap.size V rfl rfl 56 _ t9 256 size56 (by rw [bs_size, zs_length]) hVl ?_))
      have i0 := t0.other (g := w8.heap.size) (by omega) (bs V)
      have ig := tg.other (g := w8.heap.size) (by omega) (bs V)
      have i9 := t9.set (bs V)
      have hB0 := below_setRow tb tb0.size (bs V)
      have hn9 : ¬ rfoot r vs' vp' vf' w8.heap.size := fun q => by have := HFL.out _ q; have := tb0.size; omega
      clear t0 tg t9 tb0 tb h8 b0 bg d5 hcc hc0 hck
      generalize (w8.alloc (.cells (bs (zs 256)) 56)).setRow w8.heap.size (bs V) = w9 at i0 ig i9 hB0 ⊢
      generalize w8.heap.size = gb at i9 hn9 hl0 hlg2 ⊢
      have hB0 : Below wr.heap.size wr w9.drew := hB0.drew
      have eN : N + 4 * (k + 1) = N + 4 * k + 4 := by omega
      by_cases hE : E = 0
      · have hE' : (E != 0) = false := by simp [hE]
        refine wp_region_held_drew (S := fun w' => Row w' gm #[.pointer (some ⟨r, 0, none⟩), .int .i64 l.at_, .int .i64 l.size, .int .u32 l.ep, .int .u32 l.first, .slice (some ⟨g, off, none⟩) M cb, .int .i64 l.lasting, .string l.open_, .int .u64 l.fin, .int .u64 l.dur, .bool l.old] 49 ∧ Row w' gb (bs V) 56 ∧ Row w' g cur 65) (by kernel_rfl) ⟨i0, i9, ig⟩ fun hS => ?_
        generalize w9.drew = W9 at hS hB0 ⊢
        have hB := hB0
        clear hB0
        refine wpAnyH_take (i := 0) (v := .pointer (some ⟨gm, 0, none⟩)) rfl (by kernel_rfl) (by kernel_rfl) (by kernel_rfl) (fun _ _ _ h => h) (Or.inl ⟨by rfl, fun w _ => by go_simp⟩) hS ?_
        try simp only [Act.put, nz0, nz1, nz2, nz3, nz4, nz5]
        refine wpAnyH_take (i := 1) (v := .pointer (some ⟨gm, 0, none⟩)) rfl (by kernel_rfl) (by kernel_rfl) (by kernel_rfl) (fun _ _ _ h => h) (Or.inl ⟨by rfl, fun w _ => by go_simp⟩) hS ?_
        try simp only [Act.put, nz0, nz1, nz2, nz3, nz4, nz5]
        refine wpAnyH_take (i := 2) (v := .pointer (some ⟨gm, 0, none⟩)) rfl (by kernel_rfl) (by kernel_rfl) (by kernel_rfl) (fun _ _ _ h => h) (Or.inl ⟨by rfl, fun w _ => by go_simp⟩) hS ?_
        try simp only [Act.put, nz0, nz1, nz2, nz3, nz4, nz5]
        refine wpAnyH_take (i := 3) (v := .pointer (some ⟨r, 0, none⟩)) rfl (by kernel_rfl) (by kernel_rfl) (by kernel_rfl) (fun _ _ _ h => h) (Or.inl ⟨by rfl, fun w h => by have c := row_at h.1 0 _ rfl; go_simp⟩) hS ?_
        try simp only [Act.put, nz0, nz1, nz2, nz3, nz4, nz5]
        refine wpAnyH_take (i := 4) (v := .pointer (some ⟨gm, 0, none⟩)) rfl (by kernel_rfl) (by kernel_rfl) (by kernel_rfl) (fun _ _ _ h => h) (Or.inl ⟨by rfl, fun w _ => by go_simp⟩) hS ?_
        try simp only [Act.put, nz0, nz1, nz2, nz3, nz4, nz5]
        refine wpAnyH_take (i := 5) (v := .pointer (some ⟨gm, 0, none⟩)) rfl (by kernel_rfl) (by kernel_rfl) (by kernel_rfl) (fun _ _ _ h => h) (Or.inl ⟨by rfl, fun w _ => by go_simp⟩) hS ?_
        try simp only [Act.put, nz0, nz1, nz2, nz3, nz4, nz5]
        refine wpAnyH_take (i := 6) (v := .pointer (some ⟨gm, 1, none⟩)) rfl (by kernel_rfl) (by kernel_rfl) (by kernel_rfl) (fun _ _ _ h => h) (Or.inl ⟨by rfl, fun w _ => by go_simp⟩) hS ?_
        try simp only [Act.put, nz0, nz1, nz2, nz3, nz4, nz5]
        refine wpAnyH_take (i := 7) (v := .int .i64 l.at_) rfl (by kernel_rfl) (by kernel_rfl) (by kernel_rfl) (fun _ _ _ h => h) (Or.inl ⟨by rfl, fun w h => by have c := row_at h.1 1 _ rfl; go_simp⟩) hS ?_
        try simp only [Act.put, nz0, nz1, nz2, nz3, nz4, nz5]
        refine wpAnyH_take (i := 8) (v := .pointer (some ⟨gm, 0, none⟩)) rfl (by kernel_rfl) (by kernel_rfl) (by kernel_rfl) (fun _ _ _ h => h) (Or.inl ⟨by rfl, fun w _ => by go_simp⟩) hS ?_
        try simp only [Act.put, nz0, nz1, nz2, nz3, nz4, nz5]
        refine wpAnyH_take (i := 9) (v := .pointer (some ⟨gm, 0, none⟩)) rfl (by kernel_rfl) (by kernel_rfl) (by kernel_rfl) (fun _ _ _ h => h) (Or.inl ⟨by rfl, fun w _ => by go_simp⟩) hS ?_
        try simp only [Act.put, nz0, nz1, nz2, nz3, nz4, nz5]
        refine wpAnyH_take (i := 10) (v := .pointer (some ⟨gm, 5, none⟩)) rfl (by kernel_rfl) (by kernel_rfl) (by kernel_rfl) (fun _ _ _ h => h) (Or.inl ⟨by rfl, fun w _ => by go_simp⟩) hS ?_
        try simp only [Act.put, nz0, nz1, nz2, nz3, nz4, nz5]
        refine wpAnyH_take (i := 11) (v := .slice (some ⟨g, off, none⟩) M cb) rfl (by kernel_rfl) (by kernel_rfl) (by kernel_rfl) (fun _ _ _ h => h) (Or.inl ⟨by rfl, fun w h => by have c := row_at h.1 5 _ rfl; go_simp⟩) hS ?_
        try simp only [Act.put, nz0, nz1, nz2, nz3, nz4, nz5]
        refine wpAnyH_take (i := 12) (v := .int .i64 (q : Int)) rfl (by kernel_rfl) (by kernel_rfl) (by kernel_rfl) (fun _ _ _ h => h) (Or.inl ⟨by rfl, fun w _ => by go_simp⟩) hS ?_
        try simp only [Act.put, nz0, nz1, nz2, nz3, nz4, nz5]
        refine wpAnyH_take (i := 13) (v := .pointer (some ⟨g, off + q * 4, none⟩)) rfl (by kernel_rfl) (by kernel_rfl) (by kernel_rfl) (fun _ _ _ h => h) (Or.inl ⟨by rfl, fun w _ => by go_simp⟩) hS ?_
        try simp only [Act.put, nz0, nz1, nz2, nz3, nz4, nz5]
        refine wpAnyH_take (i := 14) (v := .pointer (some ⟨g, off + q * 4 + 1, none⟩)) rfl (by kernel_rfl) (by kernel_rfl) (by kernel_rfl) (fun _ _ _ h => h) (Or.inl ⟨by rfl, fun w _ => by go_simp⟩) hS ?_
        try simp only [Act.put, nz0, nz1, nz2, nz3, nz4, nz5]
        refine wpAnyH_take (i := 15) (v := .int .u32 c.num) rfl (by kernel_rfl) (by kernel_rfl) (by kernel_rfl) (fun _ _ _ h => h) (Or.inl ⟨by rfl, fun w h => by have c := row_at h.2.2 (off + q * 4 + 1) _ hnum; go_simp⟩) hS ?_
        try simp only [Act.put, nz0, nz1, nz2, nz3, nz4, nz5]
        refine wpAnyH_take (i := 16) (v := .pointer (some ⟨gm, 0, none⟩)) rfl (by kernel_rfl) (by kernel_rfl) (by kernel_rfl) (fun _ _ _ h => h) (Or.inl ⟨by rfl, fun w _ => by go_simp⟩) hS ?_
        try simp only [Act.put, nz0, nz1, nz2, nz3, nz4, nz5]
        refine wpAnyH_take (i := 17) (v := .pointer (some ⟨gm, 0, none⟩)) rfl (by kernel_rfl) (by kernel_rfl) (by kernel_rfl) (fun _ _ _ h => h) (Or.inl ⟨by rfl, fun w _ => by go_simp⟩) hS ?_
        try simp only [Act.put, nz0, nz1, nz2, nz3, nz4, nz5]
        refine wpAnyH_take (i := 18) (v := .pointer (some ⟨gm, 2, none⟩)) rfl (by kernel_rfl) (by kernel_rfl) (by kernel_rfl) (fun _ _ _ h => h) (Or.inl ⟨by rfl, fun w _ => by go_simp⟩) hS ?_
        try simp only [Act.put, nz0, nz1, nz2, nz3, nz4, nz5]
        refine wpAnyH_take (i := 19) (v := .int .i64 l.size) rfl (by kernel_rfl) (by kernel_rfl) (by kernel_rfl) (fun _ _ _ h => h) (Or.inl ⟨by rfl, fun w h => by have c := row_at h.1 2 _ rfl; go_simp⟩) hS ?_
        try simp only [Act.put, nz0, nz1, nz2, nz3, nz4, nz5]
        refine wpAnyH_take (i := 20) (v := .int .u32 l.size) rfl (by kernel_rfl) (by kernel_rfl) (by kernel_rfl) (fun _ _ _ h => h) (Or.inl ⟨by rfl, fun w _ => by go_simp⟩) hS ?_
        try simp only [Act.put, nz0, nz1, nz2, nz3, nz4, nz5]
        refine wpAnyH_take (i := 21) (v := .int .u32 PM) rfl (by kernel_rfl) (by kernel_rfl) (by kernel_rfl) (fun _ _ _ h => h) (Or.inl ⟨by rfl, fun w _ => by go_simp⟩) hS ?_
        try simp only [Act.put, nz0, nz1, nz2, nz3, nz4, nz5]
        refine wpAnyH_take (i := 22) (v := .int .i64 PM) rfl (by kernel_rfl) (by kernel_rfl) (by kernel_rfl) (fun _ _ _ h => h) (Or.inl ⟨by rfl, fun w _ => by go_simp⟩) hS ?_
        try simp only [Act.put, nz0, nz1, nz2, nz3, nz4, nz5]
        refine wpAnyH_take (i := 23) (v := .int .i64 PL) rfl (by kernel_rfl) (by kernel_rfl) (by kernel_rfl) (fun _ _ _ h => h) (Or.inl ⟨by rfl, fun w _ => by go_simp⟩) hS ?_
        try simp only [Act.put, nz0, nz1, nz2, nz3, nz4, nz5]
        refine wpAnyH_take (i := 24) (v := .agg (bs V)) rfl (by kernel_rfl) (by kernel_rfl) (by kernel_rfl) (fun _ _ _ h => h) (yields_row (by rfl) 56 (.tmp 8) rfl gb rfl 56 (bs V) (fun w h => h.2.1) 256 5 Try.underlying56 size56 hVb) hS ?_
        try simp only [Act.put, nz0, nz1, nz2, nz3, nz4, nz5]
        refine wpAnyH_ready (rs := [25]) (by kernel_rfl) (by simp) ?_
        refine AllReadyH.cons rfl (fun K hK => ?_) AllReadyH.nil
        go_simp
        go_at_call 75
        refine Calls.mono (HWR.out _ hB) ?_
        rintro e w1_25 ⟨rfl, hCr, hOf⟩
        refine hK.out _ _ (⟨hS.1.off hOf hng, hS.2.1.off hOf hn9, hS.2.2.off hOf hngb⟩) fun hS => ?_
        try simp only [Act.put, nz0, nz1, nz2, nz3, nz4, nz5]
        refine wpAnyH_take (i := 26) (v := .int .i64 E) rfl (by kernel_rfl) (by kernel_rfl) (by kernel_rfl) (fun _ _ _ h => h) (Or.inl ⟨by rfl, fun w _ => by go_simp⟩) hS ?_
        try simp only [Act.put, nz0, nz1, nz2, nz3, nz4, nz5]
        refine wpAnyH_done (by kernel_rfl) ?_ _
        go_wp2
        go_roundw
        case rel =>
          have hq1 : Hid (q + 1 = f + (k + 1)) := by show q + 1 = f + (k + 1); have := Hq.out; omega
          have hE2 : (rwrS l.at_ l.size (cs.take (k + 1)) d).1 = 0 := by rw [hSt]; exact hE
          have hC2 := hCr
          rw [← eN, ← (show (rwrS l.at_ l.size (cs.take (k + 1)) d).2 = d2 by rw [hSt])] at hC2
          exact ⟨k + 1, q + 1, by omega, hq1, by go_num, hE2, hC2⟩
        case measure => have := Hq.out; have := Htm.out; simp [intOf]; omega
      · have hE' : (E != 0) = true := by simp [hE]
        have HK : Hid (∀ w', RStep w r vs vp vf d2 (N + 4 * k + 4) w' → PP (.returned (.int .i64 E)) w') := fun w' h => by
          rw [HPP.out]
          have hcut : cs = cs.take (k + 1) ++ cs.drop (k + 1) := (List.take_append_drop _ _).symm
          have e1 : rwrS l.at_ l.size cs d = (E, d2) := by
            rw [hcut, rwrS_append, hSt, if_neg hE]
          have hne : cs ≠ [] := fun q => by rw [q] at hcl; simp at hcl; omega
          have e2 : rlayR l.at_ l.size cs d = (E, d2) := by unfold rlayR; rw [if_neg hne, e1, if_neg hE]
          rw [e2]
          exact ⟨rfl, h.grow (by omega) (by omega)⟩
        clear hE
        refine wp_region_held_drew (S := fun w' => Row w' gm #[.pointer (some ⟨r, 0, none⟩), .int .i64 l.at_, .int .i64 l.size, .int .u32 l.ep, .int .u32 l.first, .slice (some ⟨g, off, none⟩) M cb, .int .i64 l.lasting, .string l.open_, .int .u64 l.fin, .int .u64 l.dur, .bool l.old] 49 ∧ Row w' gb (bs V) 56 ∧ Row w' g cur 65) (by kernel_rfl) ⟨i0, i9, ig⟩ fun hS => ?_
        generalize w9.drew = W9 at hS hB0 ⊢
        have hB := hB0
        clear hB0
        refine wpAnyH_take (i := 0) (v := .pointer (some ⟨gm, 0, none⟩)) rfl (by kernel_rfl) (by kernel_rfl) (by kernel_rfl) (fun _ _ _ h => h) (Or.inl ⟨by rfl, fun w _ => by go_simp⟩) hS ?_
        try simp only [Act.put, nz0, nz1, nz2, nz3, nz4, nz5]
        refine wpAnyH_take (i := 1) (v := .pointer (some ⟨gm, 0, none⟩)) rfl (by kernel_rfl) (by kernel_rfl) (by kernel_rfl) (fun _ _ _ h => h) (Or.inl ⟨by rfl, fun w _ => by go_simp⟩) hS ?_
        try simp only [Act.put, nz0, nz1, nz2, nz3, nz4, nz5]
        refine wpAnyH_take (i := 2) (v := .pointer (some ⟨gm, 0, none⟩)) rfl (by kernel_rfl) (by kernel_rfl) (by kernel_rfl) (fun _ _ _ h => h) (Or.inl ⟨by rfl, fun w _ => by go_simp⟩) hS ?_
        try simp only [Act.put, nz0, nz1, nz2, nz3, nz4, nz5]
        refine wpAnyH_take (i := 3) (v := .pointer (some ⟨r, 0, none⟩)) rfl (by kernel_rfl) (by kernel_rfl) (by kernel_rfl) (fun _ _ _ h => h) (Or.inl ⟨by rfl, fun w h => by have c := row_at h.1 0 _ rfl; go_simp⟩) hS ?_
        try simp only [Act.put, nz0, nz1, nz2, nz3, nz4, nz5]
        refine wpAnyH_take (i := 4) (v := .pointer (some ⟨gm, 0, none⟩)) rfl (by kernel_rfl) (by kernel_rfl) (by kernel_rfl) (fun _ _ _ h => h) (Or.inl ⟨by rfl, fun w _ => by go_simp⟩) hS ?_
        try simp only [Act.put, nz0, nz1, nz2, nz3, nz4, nz5]
        refine wpAnyH_take (i := 5) (v := .pointer (some ⟨gm, 0, none⟩)) rfl (by kernel_rfl) (by kernel_rfl) (by kernel_rfl) (fun _ _ _ h => h) (Or.inl ⟨by rfl, fun w _ => by go_simp⟩) hS ?_
        try simp only [Act.put, nz0, nz1, nz2, nz3, nz4, nz5]
        refine wpAnyH_take (i := 6) (v := .pointer (some ⟨gm, 1, none⟩)) rfl (by kernel_rfl) (by kernel_rfl) (by kernel_rfl) (fun _ _ _ h => h) (Or.inl ⟨by rfl, fun w _ => by go_simp⟩) hS ?_
        try simp only [Act.put, nz0, nz1, nz2, nz3, nz4, nz5]
        refine wpAnyH_take (i := 7) (v := .int .i64 l.at_) rfl (by kernel_rfl) (by kernel_rfl) (by kernel_rfl) (fun _ _ _ h => h) (Or.inl ⟨by rfl, fun w h => by have c := row_at h.1 1 _ rfl; go_simp⟩) hS ?_
        try simp only [Act.put, nz0, nz1, nz2, nz3, nz4, nz5]
        refine wpAnyH_take (i := 8) (v := .pointer (some ⟨gm, 0, none⟩)) rfl (by kernel_rfl) (by kernel_rfl) (by kernel_rfl) (fun _ _ _ h => h) (Or.inl ⟨by rfl, fun w _ => by go_simp⟩) hS ?_
        try simp only [Act.put, nz0, nz1, nz2, nz3, nz4, nz5]
        refine wpAnyH_take (i := 9) (v := .pointer (some ⟨gm, 0, none⟩)) rfl (by kernel_rfl) (by kernel_rfl) (by kernel_rfl) (fun _ _ _ h => h) (Or.inl ⟨by rfl, fun w _ => by go_simp⟩) hS ?_
        try simp only [Act.put, nz0, nz1, nz2, nz3, nz4, nz5]
        refine wpAnyH_take (i := 10) (v := .pointer (some ⟨gm, 5, none⟩)) rfl (by kernel_rfl) (by kernel_rfl) (by kernel_rfl) (fun _ _ _ h => h) (Or.inl ⟨by rfl, fun w _ => by go_simp⟩) hS ?_
        try simp only [Act.put, nz0, nz1, nz2, nz3, nz4, nz5]
        refine wpAnyH_take (i := 11) (v := .slice (some ⟨g, off, none⟩) M cb) rfl (by kernel_rfl) (by kernel_rfl) (by kernel_rfl) (fun _ _ _ h => h) (Or.inl ⟨by rfl, fun w h => by have c := row_at h.1 5 _ rfl; go_simp⟩) hS ?_
        try simp only [Act.put, nz0, nz1, nz2, nz3, nz4, nz5]
        refine wpAnyH_take (i := 12) (v := .int .i64 (q : Int)) rfl (by kernel_rfl) (by kernel_rfl) (by kernel_rfl) (fun _ _ _ h => h) (Or.inl ⟨by rfl, fun w _ => by go_simp⟩) hS ?_
        try simp only [Act.put, nz0, nz1, nz2, nz3, nz4, nz5]
        refine wpAnyH_take (i := 13) (v := .pointer (some ⟨g, off + q * 4, none⟩)) rfl (by kernel_rfl) (by kernel_rfl) (by kernel_rfl) (fun _ _ _ h => h) (Or.inl ⟨by rfl, fun w _ => by go_simp⟩) hS ?_
        try simp only [Act.put, nz0, nz1, nz2, nz3, nz4, nz5]
        refine wpAnyH_take (i := 14) (v := .pointer (some ⟨g, off + q * 4 + 1, none⟩)) rfl (by kernel_rfl) (by kernel_rfl) (by kernel_rfl) (fun _ _ _ h => h) (Or.inl ⟨by rfl, fun w _ => by go_simp⟩) hS ?_
        try simp only [Act.put, nz0, nz1, nz2, nz3, nz4, nz5]
        refine wpAnyH_take (i := 15) (v := .int .u32 c.num) rfl (by kernel_rfl) (by kernel_rfl) (by kernel_rfl) (fun _ _ _ h => h) (Or.inl ⟨by rfl, fun w h => by have c := row_at h.2.2 (off + q * 4 + 1) _ hnum; go_simp⟩) hS ?_
        try simp only [Act.put, nz0, nz1, nz2, nz3, nz4, nz5]
        refine wpAnyH_take (i := 16) (v := .pointer (some ⟨gm, 0, none⟩)) rfl (by kernel_rfl) (by kernel_rfl) (by kernel_rfl) (fun _ _ _ h => h) (Or.inl ⟨by rfl, fun w _ => by go_simp⟩) hS ?_
        try simp only [Act.put, nz0, nz1, nz2, nz3, nz4, nz5]
        refine wpAnyH_take (i := 17) (v := .pointer (some ⟨gm, 0, none⟩)) rfl (by kernel_rfl) (by kernel_rfl) (by kernel_rfl) (fun _ _ _ h => h) (Or.inl ⟨by rfl, fun w _ => by go_simp⟩) hS ?_
        try simp only [Act.put, nz0, nz1, nz2, nz3, nz4, nz5]
        refine wpAnyH_take (i := 18) (v := .pointer (some ⟨gm, 2, none⟩)) rfl (by kernel_rfl) (by kernel_rfl) (by kernel_rfl) (fun _ _ _ h => h) (Or.inl ⟨by rfl, fun w _ => by go_simp⟩) hS ?_
        try simp only [Act.put, nz0, nz1, nz2, nz3, nz4, nz5]
        refine wpAnyH_take (i := 19) (v := .int .i64 l.size) rfl (by kernel_rfl) (by kernel_rfl) (by kernel_rfl) (fun _ _ _ h => h) (Or.inl ⟨by rfl, fun w h => by have c := row_at h.1 2 _ rfl; go_simp⟩) hS ?_
        try simp only [Act.put, nz0, nz1, nz2, nz3, nz4, nz5]
        refine wpAnyH_take (i := 20) (v := .int .u32 l.size) rfl (by kernel_rfl) (by kernel_rfl) (by kernel_rfl) (fun _ _ _ h => h) (Or.inl ⟨by rfl, fun w _ => by go_simp⟩) hS ?_
        try simp only [Act.put, nz0, nz1, nz2, nz3, nz4, nz5]
        refine wpAnyH_take (i := 21) (v := .int .u32 PM) rfl (by kernel_rfl) (by kernel_rfl) (by kernel_rfl) (fun _ _ _ h => h) (Or.inl ⟨by rfl, fun w _ => by go_simp⟩) hS ?_
        try simp only [Act.put, nz0, nz1, nz2, nz3, nz4, nz5]
        refine wpAnyH_take (i := 22) (v := .int .i64 PM) rfl (by kernel_rfl) (by kernel_rfl) (by kernel_rfl) (fun _ _ _ h => h) (Or.inl ⟨by rfl, fun w _ => by go_simp⟩) hS ?_
        try simp only [Act.put, nz0, nz1, nz2, nz3, nz4, nz5]
        refine wpAnyH_take (i := 23) (v := .int .i64 PL) rfl (by kernel_rfl) (by kernel_rfl) (by kernel_rfl) (fun _ _ _ h => h) (Or.inl ⟨by rfl, fun w _ => by go_simp⟩) hS ?_
        try simp only [Act.put, nz0, nz1, nz2, nz3, nz4, nz5]
        refine wpAnyH_take (i := 24) (v := .agg (bs V)) rfl (by kernel_rfl) (by kernel_rfl) (by kernel_rfl) (fun _ _ _ h => h) (yields_row (by rfl) 56 (.tmp 8) rfl gb rfl 56 (bs V) (fun w h => h.2.1) 256 5 Try.underlying56 size56 hVb) hS ?_
        try simp only [Act.put, nz0, nz1, nz2, nz3, nz4, nz5]
        refine wpAnyH_ready (rs := [25]) (by kernel_rfl) (by simp) ?_
        refine AllReadyH.cons rfl (fun K hK => ?_) AllReadyH.nil
        go_simp
        go_at_call 75
        refine Calls.mono (HWR.out _ hB) ?_
        rintro e w1_25 ⟨rfl, hCr, hOf⟩
        refine hK.out _ _ (⟨hS.1.off hOf hng, hS.2.1.off hOf hn9, hS.2.2.off hOf hngb⟩) fun hS => ?_
        try simp only [Act.put, nz0, nz1, nz2, nz3, nz4, nz5]
        refine wpAnyH_take (i := 26) (v := .int .i64 E) rfl (by kernel_rfl) (by kernel_rfl) (by kernel_rfl) (fun _ _ _ h => h) (Or.inl ⟨by rfl, fun w _ => by go_simp⟩) hS ?_
        try simp only [Act.put, nz0, nz1, nz2, nz3, nz4, nz5]
        refine wpAnyH_done (by kernel_rfl) ?_ _
        go_wp2
        try go_ret
        exact HK.out _ hCr
    · obtain rfl : m = k := by omega
      have hkm' : ¬ (q : Int) < (t : Int) := by have := Hq.out; have := Htm.out; omega
      have hct : cs.take m = cs := List.take_of_length_le (by omega)
      rw [hct] at hE0 hD'
      have hops := rwrS_ops l.at_ l.size cs d
      rw [hcl] at hops
      have hne : cs ≠ [] := fun q => by rw [q] at hcl; simp at hcl; omega
      have e2 : rlayR l.at_ l.size cs d = rsync (rwrS l.at_ l.size cs d).2 := by unfold rlayR; rw [if_neg hne, if_pos hE0]
      have HSY : Hid _ := RStep.sync (w := w) (vs := vs) (vp := vp) (vf := vf) ⟨vs', vp', vf', hD', hO', hF'⟩ (by omega)
      have HK : Hid (∀ w', RStep w r vs vp vf (rsync (rwrS l.at_ l.size cs d).2).2 (N + 4 * m) w' → PP (.returned (.int .i64 (rsync (rwrS l.at_ l.size cs d).2).1)) w') := fun w' h => by
        rw [HPP.out, e2]; exact ⟨rfl, h⟩
      generalize rsync (rwrS l.at_ l.size cs d).2 = sy at HSY HK
      have d0 := row_at b0 0 _ rfl
      clear hE0 hD' hO' hF' e2 bg
      go_wp2_with (first
        | (go_at_call 76; refine Calls.mono HSY.out ?_; clear HSY; rintro e w10 ⟨rfl, h10⟩))
      try go_ret
      exact HK.out _ h10
end Go.Proofs.Ytgnedbagelhcbaa
namespace Go.Proofs.Ytgnedbagelhcbaa
open Go.ChangeShapes Go.WideShapes Go.ChangeAt Go.RowKit
set_option linter.unusedVariables false
set_option linter.unusedSimpArgs false
set_option maxRecDepth 20000
structure RLD (w : World) (gm r : Nat) (vb vs vp vf : Value) (m : RLg) (R : RD) (N : Nat) : Prop where
  row : Row w gm (rlcells (.pointer (some ⟨r, 0, none⟩)) vb m) 49
  bl : MOwn w vb m.blocks
  dsk : RDAt w r R vs vp vf N
  bg : vb.ownBlock ≠ some gm
  ng : ¬ rfoot r vs vp vf gm
  nb : ∀ j, vb.ownBlock = some j → ¬ rfoot r vs vp vf j
def rlfoot (gm r : Nat) (vb vs vp vf : Value) (j : Nat) : Prop := j = gm ∨ vb.ownBlock = some j ∨ rfoot r vs vp vf j
def RLS (w : World) (gm r : Nat) (F : Nat → Prop) (m : RLg) (R : RD) (N : Nat) (wr : World) : Prop :=
  ∃ vb vs vp vf, RLD wr gm r vb vs vp vf m R N ∧ Off F w wr ∧ ∀ j, rlfoot gm r vb vs vp vf j → F j ∨ w.heap.size ≤ j
theorem RLD.lt {w : World} {gm r : Nat} {vb vs vp vf : Value} {m : RLg} {R : RD} {N : Nat} (h : RLD w gm r vb vs vp vf m R N) {j : Nat} (q : rlfoot gm r vb vs vp vf j) : j < w.heap.size := by
  rcases q with rfl | q | q
  · exact h.row.lt
  · exact h.bl.lt j q
  · exact h.dsk.lt q
theorem RLD.off {F : Nat → Prop} {w w' : World} {gm r : Nat} {vb vs vp vf : Value} {m : RLg} {R : RD} {N : Nat} (h : RLD w gm r vb vs vp vf m R N) (o : Off F w w') (hF : ∀ j, rlfoot gm r vb vs vp vf j → ¬ F j) : RLD w' gm r vb vs vp vf m R N :=
  ⟨h.row.off o (hF _ (Or.inl rfl)), h.bl.off o (fun j q => hF j (Or.inr (Or.inl q))), h.dsk.off o (fun j q => hF j (Or.inr (Or.inr q))), h.bg, h.ng, h.nb⟩
theorem RLS.below {w wr : World} {gm r : Nat} {F : Nat → Prop} {m : RLg} {R : RD} {N : Nat} {w' : World} (h : RLS w gm r F m R N wr) (b : Below wr.heap.size wr w') : RLS w gm r F m R N w' := by
  obtain ⟨vb, vs, vp, vf, h1, h2, h3⟩ := h
  exact ⟨vb, vs, vp, vf, h1.off (Off.of_below (F := fun _ => False) b) (fun _ _ q => q), h2.trans (Off.of_below (F := fun _ => False) b) (fun _ q => q.elim), h3⟩
theorem RLS.row {w wr : World} {gm r : Nat} {F : Nat → Prop} {m : RLg} {R : RD} {N : Nat} (h : RLS w gm r F m R N wr) : ∃ oa cap, Row wr gm (rlcells (.pointer (some ⟨r, 0, none⟩)) (.slice oa m.blocks.length cap) m) 49 := by
  obtain ⟨vb, vs, vp, vf, h1, _⟩ := h
  obtain ⟨oa, cap, hv⟩ := h1.bl.form
  have := h1.row
  rw [hv] at this
  exact ⟨oa, cap, this⟩
theorem RLS.turn {w wr w' : World} {gm r : Nat} {F : Nat → Prop} {m m' : RLg} {R : RD} {N : Nat} {vb vs vp vf : Value} (h1 : RLD wr gm r vb vs vp vf m R N) (h2 : Off F w wr) (h3 : ∀ j, rlfoot gm r vb vs vp vf j → F j ∨ w.heap.size ≤ j) (h : RCut wr gm (.pointer (some ⟨r, 0, none⟩)) vb m' w') : RLS w gm r F m' R N w' := by
  obtain ⟨v, k1, k2, k3, k4, k5⟩ := h
  have hno : ∀ j, rfoot r vs vp vf j → ¬ (j = gm ∨ vb.ownBlock = some j) := fun j q q2 => by
    rcases q2 with rfl | q2
    · exact h1.ng q
    · exact h1.nb j q2 q
  refine ⟨v, vs, vp, vf, ⟨k1, k2, h1.dsk.off k4 hno, k3, h1.ng, fun j q q2 => ?_⟩, h2.trans k4 (fun j q => ?_), fun j q => ?_⟩
  · rcases k5 j q with q3 | q3
    · exact h1.nb j q3 q2
    · have := h1.dsk.lt q2; omega
  · rcases q with q | q
    · exact h3 j (Or.inl q)
    · exact h3 j (Or.inr (Or.inl q))
  · rcases q with q | q | q
    · exact h3 j (Or.inl q)
    · rcases k5 j q with q3 | q3
      · exact h3 j (Or.inr (Or.inl q3))
      · exact Or.inr (Nat.le_trans h2.size q3)
    · exact h3 j (Or.inr (Or.inr q))
theorem RLS.set {w wr : World} {gm r : Nat} {F : Nat → Prop} {m m' : RLg} {R : RD} {N : Nat} (h : RLS w gm r F m R N wr) (k : Nat) (x : Value) (hb : m'.blocks = m.blocks) (hc : ∀ pd v, (rlcells pd v m).setIfInBounds k x = rlcells pd v m') : RLS w gm r F m' R N (wr.setCell ⟨gm, k, none⟩ x) := by
  obtain ⟨vb, vs, vp, vf, h1, h2, h3⟩ := h
  exact RLS.turn h1 h2 h3 ((RCut.refl h1.row h1.bl h1.bg).set k x hb (fun v => hc _ v))
theorem RLS.cut {w wr : World} {gm r : Nat} {F : Nat → Prop} {m : RLg} {R : RD} {N : Nat} (h : RLS w gm r F m R N wr) (n : Nat) (hN : n ≤ m.open_.size) (hs : m.blocks.length ≤ 900) (hf : (m.open_.size : Int) ≤ m.fin ∧ m.fin ≤ 18446744073709551615) (hsz : m.open_.size ≤ 1000000000) :
    Calls Try.prog 48 #[.pointer (some ⟨gm, 0, none⟩), .int .i64 n] wr fun e w' => e = .returned (.tuple #[]) ∧ RLS w gm r F (m.cut n) R N w' := by
  obtain ⟨vb, vs, vp, vf, h1, h2, h3⟩ := h
  refine (rcut_any wr gm _ vb m n h1.row h1.bl h1.bg hN hs hf hsz).mono ?_
  rintro e w' ⟨rfl, k⟩
  exact ⟨rfl, RLS.turn h1 h2 h3 k⟩
def appAM (m : RLg) (s : ByteArray) : Int := if okF s = true ∧ fullM m (frS s) = false then m.fin else 0
def appEM (m : RLg) (s : ByteArray) : Int := if okF s = true then if fullM m (frS s) = true then 5 else 0 else 1
def appLM (m : RLg) (s : ByteArray) : RLg := if okF s = true ∧ fullM m (frS s) = false then m.app (frS s) else m
theorem RLS.app {w wr : World} {gm r : Nat} {F : Nat → Prop} {m : RLg} {R : RD} {N : Nat} (h : RLS w gm r F m R N wr) (s : ByteArray) (hs : s.size ≤ maxLen) (hsl : m.blocks.length ≤ 800) (hop : m.open_.size ≤ 10000) (hf : (m.open_.size : Int) ≤ m.fin ∧ m.fin ≤ 9223372036854775807) :
    Calls Try.prog 14 #[.pointer (some ⟨gm, 0, none⟩), .string s] wr fun e w' => e = .returned (.tuple #[.int .u64 (appAM m s), .int .i64 (appEM m s)]) ∧ RLS w gm r F (appLM m s) R N w' := by
  have hh := h
  obtain ⟨vb, vs, vp, vf, h1, h2, h3⟩ := h
  refine (rapp_any wr gm _ vb m s h1.row h1.bl h1.bg hs hsl hop hf).mono ?_
  rintro e w' ⟨a1, a2, a3⟩
  unfold appAM appEM appLM
  cases hk : okF s with
  | false => obtain ⟨rfl, b⟩ := a1 hk; simp only [Bool.false_eq_true, false_and, if_false]; refine ⟨?_, hh.below b⟩ <;> first | rfl | trivial
  | true =>
    cases hu : fullM m (frS s) with
    | true => obtain ⟨rfl, b⟩ := a2 hk hu; simp only [Bool.true_eq_false, and_false, if_false, if_true]; refine ⟨?_, hh.below b⟩ <;> first | rfl | trivial
    | false => obtain ⟨rfl, b⟩ := a3 hk hu; simp only [and_self, if_true, Bool.false_eq_true, if_false]; refine ⟨?_, RLS.turn h1 h2 h3 b⟩ <;> first | rfl | trivial
theorem RLS.lay {w wr : World} {gm r : Nat} {F : Nat → Prop} {m : RLg} {R : RD} {N : Nat} (h : RLS w gm r F m R N wr) (f t : Nat) (hok : ∀ c ∈ (m.blocks.drop f).take (t - f), c.Ok) (hf : f ≤ t) (ht : t ≤ m.blocks.length) (hs : m.blocks.length ≤ 1000) (ha : 0 ≤ m.at_ ∧ m.at_ ≤ 4294967295) (hz : 1 ≤ m.size ∧ m.size ≤ 4294967295) (hop : R.ops + 2000 < 9223372036854775806) (hN : N + 5000 < 1000000000) :
    Calls Try.prog 50 #[.pointer (some ⟨gm, 0, none⟩), .int .i64 f, .int .i64 t] wr fun e w' => e = .returned (.int .i64 (rlayR m.at_ m.size ((m.blocks.drop f).take (t - f)) R).1) ∧ RLS w gm r F m (rlayR m.at_ m.size ((m.blocks.drop f).take (t - f)) R).2 (N + 4 * (t - f)) w' := by
  obtain ⟨vb, vs, vp, vf, h1, h2, h3⟩ := h
  refine (rlay_any wr gm r vb vs vp vf m R N f t h1.row h1.bl h1.dsk h1.ng h1.nb hok hf ht (by omega) ha hz (by omega) (by omega)).mono ?_
  rintro e w' ⟨rfl, v1, v2, v3, k1, k2, k3⟩
  refine ⟨rfl, vb, v1, v2, v3, ⟨h1.row.off k2 h1.ng, h1.bl.off k2 h1.nb, k1, h1.bg, fun q => ?_, fun j q q2 => ?_⟩, h2.trans k2 (fun j q => h3 j (Or.inr (Or.inr q))), fun j q => ?_⟩
  · rcases k3 _ q with q | q
    · exact h1.ng q
    · have := h1.row.lt; omega
  · rcases k3 _ q2 with q3 | q3
    · exact h1.nb j q q3
    · have := h1.bl.lt j q; omega
  · rcases q with q | q | q
    · exact h3 j (Or.inl q)
    · exact h3 j (Or.inr (Or.inl q))
    · rcases k3 _ q with q3 | q3
      · exact h3 j (Or.inr (Or.inr q3))
      · exact Or.inr (Nat.le_trans h2.size q3)
theorem RLS.grow {w wr : World} {gm r : Nat} {F : Nat → Prop} {m : RLg} {R : RD} {N : Nat} {M : Nat} (h : RLS w gm r F m R N wr) (hm : N ≤ M) (hM : M < 1000000000) : RLS w gm r F m R M wr := by
  obtain ⟨vb, vs, vp, vf, h1, h2, h3⟩ := h
  exact ⟨vb, vs, vp, vf, ⟨h1.row, h1.bl, h1.dsk.grow hm hM, h1.bg, h1.ng, h1.nb⟩, h2, h3⟩
def RLg.closed (m : RLg) : RLg := if m.open_.size = 0 then m else m.cut m.open_.size
def rrestR (m : RLg) (f : Nat) (R : RD) : Int × RLg × RD :=
  if (rlayR m.at_ m.size ((m.blocks.drop f).take (m.blocks.length - f)) R).1 = 0 then (0, { m with lasting := m.blocks.length, dur := m.fin }, (rlayR m.at_ m.size ((m.blocks.drop f).take (m.blocks.length - f)) R).2)
  else ((rlayR m.at_ m.size ((m.blocks.drop f).take (m.blocks.length - f)) R).1, m, (rlayR m.at_ m.size ((m.blocks.drop f).take (m.blocks.length - f)) R).2)
def rflushC (m : RLg) (R : RD) : Int × RLg × RD :=
  if m.lasting = m.blocks.length then (0, m, R)
  else if m.old = true then rrestR m m.lasting R
  else if (rlayR m.at_ m.size ((m.blocks.drop m.lasting).take (m.lasting + 1 - m.lasting)) R).1 = 0 then rrestR { m with old := true } (m.lasting + 1) (rlayR m.at_ m.size ((m.blocks.drop m.lasting).take (m.lasting + 1 - m.lasting)) R).2
  else ((rlayR m.at_ m.size ((m.blocks.drop m.lasting).take (m.lasting + 1 - m.lasting)) R).1, m, (rlayR m.at_ m.size ((m.blocks.drop m.lasting).take (m.lasting + 1 - m.lasting)) R).2)
def rflushR (m : RLg) (R : RD) : Int × RLg × RD := rflushC m.closed R
structure RInv (m : RLg) : Prop where
  len : m.blocks.length ≤ 900
  la : m.lasting ≤ m.blocks.length
  ok : ∀ c ∈ m.blocks.drop m.lasting, c.Ok
  at_ : 0 ≤ m.at_ ∧ m.at_ ≤ 4294967295
  sz : 1 ≤ m.size ∧ m.size ≤ 4294967295
theorem drop_ok {cs : List Ck.O} {a f k : Nat} (h : ∀ c ∈ cs.drop a, c.Ok) (hf : a ≤ f) : ∀ c ∈ (cs.drop f).take k, c.Ok := fun c hc => by
  refine h c ?_
  have h1 := List.mem_of_mem_take hc
  have : cs.drop f = (cs.drop a).drop (f - a) := by rw [List.drop_drop]; congr 1; omega
  rw [this] at h1
  exact List.mem_of_mem_drop h1
theorem rlayR_ops (a z : Int) (cs : List Ck.O) (d : RD) : (rlayR a z cs d).2.ops ≤ d.ops + cs.length + 1 := by
  have h := rwrS_ops a z cs d
  unfold rlayR
  split
  · simp; omega
  · split
    · unfold rsync
      split
      · simp; omega
      · have hc := rcount_ops (rwrS a z cs d).2
        split
        · simp; omega
        · omega
    · omega
set_option maxHeartbeats 8000000 in
theorem RLS.flush {w wr : World} {gm r : Nat} {F : Nat → Prop} {m : RLg} {R : RD} {N : Nat} (h : RLS w gm r F m R N wr) (hi : RInv m.closed) (hf : (m.open_.size : Int) ≤ m.fin ∧ m.fin ≤ 18446744073709551615) (hsz : m.open_.size ≤ 10000) (hl : m.blocks.length ≤ 800) (hop : R.ops + 5000 < 9223372036854775806) (hN : N + 15000 < 1000000000) :
    Calls Try.prog 16 #[.pointer (some ⟨gm, 0, none⟩)] wr fun e w' => e = .returned (.int .i64 (rflushR m R).1) ∧ RLS w gm r F (rflushR m R).2.1 (rflushR m R).2.2 (N + 8000) w' := by
  obtain ⟨PP, HPP⟩ : ∃ PP : Ending → World → Prop, Hid (PP = fun e w' => e = .returned (.int .i64 (rflushR m R).1) ∧ RLS w gm r F (rflushR m R).2.1 (rflushR m R).2.2 (N + 8000) w') := ⟨_, rfl⟩
  rw [← HPP.out]
  have HP2 : Hid (∀ E m' R' w', rflushC m.closed R = (E, m', R') → RLS w gm r F m' R' (N + 8000) w' → PP (.returned (.int .i64 E)) w') := fun E m' R' w' e k => by
    rw [HPP.out]
    have e2 : rflushR m R = (E, m', R') := e
    rw [e2]
    exact ⟨rfl, k⟩
  clear HPP
  have HCC : Hid (m.open_.size ≠ 0 → Calls Try.prog 48 #[.pointer (some ⟨gm, 0, none⟩), .int .i64 m.open_.size] wr fun e w' => e = .returned (.tuple #[]) ∧ RLS w gm r F m.closed R N w') := fun hne => by
    have := h.cut m.open_.size (Nat.le_refl _) (by omega) hf (by omega)
    have e : m.closed = m.cut m.open_.size := by unfold RLg.closed; rw [if_neg hne]
    rw [e]; exact this
  have HC0 : Hid (m.open_.size = 0 → RLS w gm r F m.closed R N wr) := fun he => by
    have e : m.closed = m := by unfold RLg.closed; rw [if_pos he]
    rw [e]; exact h
  obtain ⟨oa, cap, r0⟩ := h.row
  unfold rlcells at r0
  have c7 := row_at r0 7 _ rfl
  have hco : (m.closed).open_.size = 0 := by
    unfold RLg.closed
    split
    · assumption
    · show (m.open_.extract m.open_.size m.open_.size).size = 0
      rw [ByteArray.size_extract]; omega
  by_cases hne : m.open_.size = 0
  · have he : m.open_ = { data := #[] } := ByteArray.ext (Array.eq_empty_of_size_eq_zero hne)
    have hcut := HC0.out hne
    rw [he] at c7
    clear HCC HC0 h
    go_enter Try.func16, Try.ntmps16
    go_upto_region 3 with fail
    clear c7 r0 he
    generalize m.closed = c at hcut HP2 hi hco
    have hla := hi.la
    have hlen := hi.len
    obtain ⟨LB, HLB⟩ : ∃ LB, Hid (c.blocks.length = LB) := ⟨_, rfl⟩
    obtain ⟨LA, HLA⟩ : ∃ LA, Hid (c.lasting = LA) := ⟨_, rfl⟩
    have hLB : LB ≤ 900 := by rw [← HLB.out]; exact hlen
    have hLA : LA ≤ LB := by rw [← HLB.out, ← HLA.out]; exact hla
    obtain ⟨ob, cb, r1⟩ := hcut.row
    unfold rlcells at r1
    have d6 : wr.cell? ⟨gm, 6, none⟩ = some (.int .i64 (LA : Int)) := by rw [← HLA.out]; exact row_at r1 6 _ rfl
    have d5 : wr.cell? ⟨gm, 5, none⟩ = some (.slice ob LB cb) := by rw [← HLB.out]; exact row_at r1 5 _ rfl
    have d10 := row_at r1 10 _ rfl
    -- the rest, from f on, over a log x with these blocks
    have HREST : Hid (∀ (x : RLg) (f : Nat) (R1 : RD) (N1 : Nat) (wx : World), x.blocks = c.blocks → x.at_ = c.at_ → x.size = c.size → LA ≤ f → f ≤ LB → R1.ops + 3000 < 9223372036854775806 → N1 + 6000 < 1000000000 → RLS w gm r F x R1 N1 wx → Calls Try.prog 50 #[.pointer (some ⟨gm, 0, none⟩), .int .i64 f, .int .i64 LB] wx fun e w' => e = .returned (.int .i64 (rlayR x.at_ x.size ((x.blocks.drop f).take (x.blocks.length - f)) R1).1) ∧ RLS w gm r F x (rlayR x.at_ x.size ((x.blocks.drop f).take (x.blocks.length - f)) R1).2 (N1 + 4 * (LB - f)) w') := fun x f R1 N1 wx e1 e2 e3 hf1 hf2 ho1 hn1 hS => by
      have hxl : x.blocks.length = LB := by rw [e1]; exact HLB.out
      have := hS.lay f LB (by rw [e1]; exact drop_ok hi.ok (by rw [HLA.out]; exact hf1)) hf2 (by omega) (by omega) (by rw [e2]; exact hi.at_) (by rw [e3]; exact hi.sz) (by omega) (by omega)
      rw [hxl]; exact this
    by_cases hall : LA = LB
    · have hall' : ((LA : Int) == (LB : Int)) = true := by simp [hall]
      have hall2 : (LA : Int) = (LB : Int) := by omega
      have HK : Hid (∀ w', RLS w gm r F c R (N + 8000) w' → PP (.returned (.int .i64 0)) w') := fun w' k => HP2.out 0 c R w' (by unfold rflushC; rw [if_pos (by rw [HLA.out, HLB.out]; exact hall)]) k
      go_quiet (fail)
      have s9 := (hcut.below (below_drewN (Below.refl wr.heap.size wr) nq)).grow (show N ≤ N + 8000 by omega) (by omega)
      clear hcut r1 d5 d6 d10
      generalize wr.drewN nq = wd at s9 ⊢
      go_wp2
      try go_ret
      exact HK.out _ s9
    · have hall' : ((LA : Int) == (LB : Int)) = false := by simp; omega
      have hall2 : ¬ (LA : Int) = (LB : Int) := by omega
      have hnl : ¬ c.lasting = c.blocks.length := by rw [HLA.out, HLB.out]; exact hall
      go_quiet (fail)
      have s9 := hcut.below (below_drewN (Below.refl wr.heap.size wr) nq)
      clear hcut r1 d5 d6 d10
      generalize wr.drewN nq = wd at s9 ⊢
      obtain ⟨ob2, cb2, r2⟩ := s9.row
      unfold rlcells at r2
      have d6 : wd.cell? ⟨gm, 6, none⟩ = some (.int .i64 (LA : Int)) := by rw [← HLA.out]; exact row_at r2 6 _ rfl
      have d10 := row_at r2 10 _ rfl
      go_upto_region 6 with fail
      clear d6
      cases hold : c.old with
      | true =>
        rw [hold] at d10
        have hRF : rflushC c R = rrestR c LA R := by unfold rflushC; rw [if_neg hnl, if_pos hold, HLA.out]
        clear hold r2
        have hRn : N + 6000 < 1000000000 := by omega
        have hL2 := HREST.out (c) (LA) R (N) wd rfl rfl rfl (by omega) (by omega) (by omega) (by omega) s9
        have hRG : rrestR (c) (LA) R = if (rlayR (c).at_ (c).size (((c).blocks.drop (LA)).take ((c).blocks.length - (LA))) R).1 = 0 then (0, { (c) with lasting := (c).blocks.length, dur := (c).fin }, (rlayR (c).at_ (c).size (((c).blocks.drop (LA)).take ((c).blocks.length - (LA))) R).2) else ((rlayR (c).at_ (c).size (((c).blocks.drop (LA)).take ((c).blocks.length - (LA))) R).1, (c), (rlayR (c).at_ (c).size (((c).blocks.drop (LA)).take ((c).blocks.length - (LA))) R).2) := rfl
        generalize rlayR (c).at_ (c).size (((c).blocks.drop (LA)).take ((c).blocks.length - (LA))) R = y at hL2 hRG
        obtain ⟨E2, R2⟩ := y
        simp only at hL2 hRG
        rw [hRG] at hRF
        have HL2 : Hid _ := hL2
        obtain ⟨ob5, cb5, r5⟩ := s9.row
        unfold rlcells at r5
        have h5 : wd.cell? ⟨gm, 5, none⟩ = some (.slice ob5 LB cb5) := by rw [← HLB.out]; exact row_at r5 5 _ rfl
        clear hL2 r5 s9
        by_cases hE2 : E2 = 0
        · have hE2' : (E2 != 0) = false := by simp [hE2]
          rw [if_pos hE2] at hRF
          have HK : Hid (∀ w', RLS w gm r F { (c) with lasting := (c).blocks.length, dur := (c).fin } R2 ((N) + 4 * (LB - (LA))) w' → PP (.returned (.int .i64 0)) w') := fun w' k => HP2.out 0 _ R2 w' hRF (k.grow (by omega) (by omega))
          go_upto_region 15 with (go_at_call 50; refine Calls.mono HL2.out ?_; clear HL2; rintro e w6 ⟨rfl, s6⟩)
          obtain ⟨ob6, cb6, r6⟩ := s6.row
          unfold rlcells at r6
          have e5 : w6.cell? ⟨gm, 5, none⟩ = some (.slice ob6 LB cb6) := by rw [← HLB.out]; exact row_at r6 5 _ rfl
          have e6 := row_at r6 6 _ rfl
          have k6 := row_frozen r6 6
          have s7 : RLS w gm r F { (c) with lasting := (c).blocks.length } R2 ((N) + 4 * (LB - (LA))) (w6.setCell ⟨gm, 6, none⟩ (.int .i64 (LB : Int))) := s6.set 6 _ rfl (fun pd v => by rw [← HLB.out]; rfl)
          clear r6 h5
          go_upto_region 16 with fail
          clear e5 e6 k6 s6
          generalize w6.setCell ⟨gm, 6, none⟩ (.int .i64 (LB : Int)) = w7 at s7 ⊢
          obtain ⟨ob7, cb7, r7⟩ := s7.row
          unfold rlcells at r7
          have e8 := row_at r7 8 _ rfl
          have e9 := row_at r7 9 _ rfl
          have k9 := row_frozen r7 9
          have s8 : RLS w gm r F { (c) with lasting := (c).blocks.length, dur := (c).fin } R2 ((N) + 4 * (LB - (LA))) (w7.setCell ⟨gm, 9, none⟩ (.int .u64 c.fin)) := s7.set 9 _ rfl (fun pd v => rfl)
          have HKK : Hid _ := HK.out _ s8
          clear r7 s7 s8 HK
          go_wp2
          try go_ret
          exact HKK.out
        · have hE2' : (E2 != 0) = true := by simp [hE2]
          rw [if_neg hE2] at hRF
          have HK : Hid (∀ w', RLS w gm r F (c) R2 ((N) + 4 * (LB - (LA))) w' → PP (.returned (.int .i64 E2)) w') := fun w' k => HP2.out E2 _ R2 w' hRF (k.grow (by omega) (by omega))
          go_wp2_with (go_at_call 50; refine Calls.mono HL2.out ?_; clear HL2; rintro e w6 ⟨rfl, s6⟩)
          try go_ret
          exact HK.out _ s6
      | false =>
        rw [hold] at d10
        have hlt1 : LA + 1 ≤ LB := by omega
        have hL1 := s9.lay LA (LA + 1) (drop_ok hi.ok (Nat.le_of_eq HLA.out)) (by omega) (by rw [HLB.out]; exact hlt1) (by omega) hi.at_ hi.sz (by omega) (by omega)
        have hop1 := rlayR_ops c.at_ c.size ((c.blocks.drop LA).take (LA + 1 - LA)) R
        have hlen1 : ((c.blocks.drop LA).take (LA + 1 - LA)).length ≤ 1 := by rw [List.length_take]; omega
        have hRF : rflushC c R = if (rlayR c.at_ c.size ((c.blocks.drop LA).take (LA + 1 - LA)) R).1 = 0 then rrestR { c with old := true } (LA + 1) (rlayR c.at_ c.size ((c.blocks.drop LA).take (LA + 1 - LA)) R).2 else ((rlayR c.at_ c.size ((c.blocks.drop LA).take (LA + 1 - LA)) R).1, c, (rlayR c.at_ c.size ((c.blocks.drop LA).take (LA + 1 - LA)) R).2) := by
          unfold rflushC; rw [if_neg hnl, if_neg (by rw [hold]; decide), HLA.out]
        generalize rlayR c.at_ c.size ((c.blocks.drop LA).take (LA + 1 - LA)) R = x1 at hL1 hRF hop1
        obtain ⟨E1, R1⟩ := x1
        simp only at hL1 hRF hop1
        have HL1 : Hid _ := hL1
        have hw3 : IntKind.i64.wrap ((LA : Int) + 1) = ((LA + 1 : Nat) : Int) := by rw [IntKind.wrap_i64]; omega
        clear hL1 hold r2
        by_cases hE1 : E1 = 0
        · have hE1' : (E1 != 0) = false := by simp [hE1]
          rw [if_pos hE1] at hRF
          go_upto_region 10 with (go_at_call 50; refine Calls.mono HL1.out ?_; clear HL1; rintro e w3 ⟨rfl, s3⟩)
          obtain ⟨ob3, cb3, r3⟩ := s3.row
          unfold rlcells at r3
          have f10 := row_at r3 10 _ rfl
          have g10 := row_frozen r3 10
          have s4 : RLS w gm r F { c with old := true } R1 (N + 4 * (LA + 1 - LA)) (w3.setCell ⟨gm, 10, none⟩ (.bool true)) := s3.set 10 _ rfl (fun pd v => rfl)
          clear d10 s9 r3
          go_upto_region 12 with fail
          clear f10 g10 s3
          generalize w3.setCell ⟨gm, 10, none⟩ (.bool true) = w4 at s4 ⊢
          have hL2 := HREST.out ({ c with old := true }) (LA + 1) R1 (N + 4 * (LA + 1 - LA)) w4 rfl rfl rfl (by omega) (by omega) (by omega) (by omega) s4
          have hRG : rrestR ({ c with old := true }) (LA + 1) R1 = if (rlayR ({ c with old := true }).at_ ({ c with old := true }).size ((({ c with old := true }).blocks.drop (LA + 1)).take (({ c with old := true }).blocks.length - (LA + 1))) R1).1 = 0 then (0, { ({ c with old := true }) with lasting := ({ c with old := true }).blocks.length, dur := ({ c with old := true }).fin }, (rlayR ({ c with old := true }).at_ ({ c with old := true }).size ((({ c with old := true }).blocks.drop (LA + 1)).take (({ c with old := true }).blocks.length - (LA + 1))) R1).2) else ((rlayR ({ c with old := true }).at_ ({ c with old := true }).size ((({ c with old := true }).blocks.drop (LA + 1)).take (({ c with old := true }).blocks.length - (LA + 1))) R1).1, ({ c with old := true }), (rlayR ({ c with old := true }).at_ ({ c with old := true }).size ((({ c with old := true }).blocks.drop (LA + 1)).take (({ c with old := true }).blocks.length - (LA + 1))) R1).2) := rfl
          generalize rlayR ({ c with old := true }).at_ ({ c with old := true }).size ((({ c with old := true }).blocks.drop (LA + 1)).take (({ c with old := true }).blocks.length - (LA + 1))) R1 = y at hL2 hRG
          obtain ⟨E2, R2⟩ := y
          simp only at hL2 hRG
          rw [hRG] at hRF
          have HL2 : Hid _ := hL2
          obtain ⟨ob5, cb5, r5⟩ := s4.row
          unfold rlcells at r5
          have h5 : w4.cell? ⟨gm, 5, none⟩ = some (.slice ob5 LB cb5) := by rw [← HLB.out]; exact row_at r5 5 _ rfl
          clear hL2 r5 s4
          by_cases hE2 : E2 = 0
          · have hE2' : (E2 != 0) = false := by simp [hE2]
            rw [if_pos hE2] at hRF
            have HK : Hid (∀ w', RLS w gm r F { ({ c with old := true }) with lasting := ({ c with old := true }).blocks.length, dur := ({ c with old := true }).fin } R2 ((N + 4 * (LA + 1 - LA)) + 4 * (LB - (LA + 1))) w' → PP (.returned (.int .i64 0)) w') := fun w' k => HP2.out 0 _ R2 w' hRF (k.grow (by omega) (by omega))
            go_upto_region 15 with (go_at_call 50; refine Calls.mono HL2.out ?_; clear HL2; rintro e w6 ⟨rfl, s6⟩)
            obtain ⟨ob6, cb6, r6⟩ := s6.row
            unfold rlcells at r6
            have e5 : w6.cell? ⟨gm, 5, none⟩ = some (.slice ob6 LB cb6) := by rw [← HLB.out]; exact row_at r6 5 _ rfl
            have e6 := row_at r6 6 _ rfl
            have k6 := row_frozen r6 6
            have s7 : RLS w gm r F { ({ c with old := true }) with lasting := ({ c with old := true }).blocks.length } R2 ((N + 4 * (LA + 1 - LA)) + 4 * (LB - (LA + 1))) (w6.setCell ⟨gm, 6, none⟩ (.int .i64 (LB : Int))) := s6.set 6 _ rfl (fun pd v => by rw [← HLB.out]; rfl)
            clear r6 h5
            go_upto_region 16 with fail
            clear e5 e6 k6 s6
            generalize w6.setCell ⟨gm, 6, none⟩ (.int .i64 (LB : Int)) = w7 at s7 ⊢
            obtain ⟨ob7, cb7, r7⟩ := s7.row
            unfold rlcells at r7
            have e8 := row_at r7 8 _ rfl
            have e9 := row_at r7 9 _ rfl
            have k9 := row_frozen r7 9
            have s8 : RLS w gm r F { ({ c with old := true }) with lasting := ({ c with old := true }).blocks.length, dur := ({ c with old := true }).fin } R2 ((N + 4 * (LA + 1 - LA)) + 4 * (LB - (LA + 1))) (w7.setCell ⟨gm, 9, none⟩ (.int .u64 c.fin)) := s7.set 9 _ rfl (fun pd v => rfl)
            have HKK : Hid _ := HK.out _ s8
            clear r7 s7 s8 HK
            go_wp2
            try go_ret
            exact HKK.out
          · have hE2' : (E2 != 0) = true := by simp [hE2]
            rw [if_neg hE2] at hRF
            have HK : Hid (∀ w', RLS w gm r F ({ c with old := true }) R2 ((N + 4 * (LA + 1 - LA)) + 4 * (LB - (LA + 1))) w' → PP (.returned (.int .i64 E2)) w') := fun w' k => HP2.out E2 _ R2 w' hRF (k.grow (by omega) (by omega))
            go_wp2_with (go_at_call 50; refine Calls.mono HL2.out ?_; clear HL2; rintro e w6 ⟨rfl, s6⟩)
            try go_ret
            exact HK.out _ s6
        · have hE1' : (E1 != 0) = true := by simp [hE1]
          rw [if_neg hE1] at hRF
          have HK : Hid (∀ w', RLS w gm r F c R1 (N + 4 * (LA + 1 - LA)) w' → PP (.returned (.int .i64 E1)) w') := fun w' k => HP2.out E1 c R1 w' hRF (k.grow (by omega) (by omega))
          clear s9
          go_wp2_with (go_at_call 50; refine Calls.mono HL1.out ?_; clear HL1; rintro e w3 ⟨rfl, s3⟩)
          try go_ret
          exact HK.out _ s3
  · have hn2 := str_ne m.open_ (by omega)
    have hn3 := hn2.1
    have hn4 := hn2.2
    clear hn2
    have HH : Hid _ := HCC.out hne
    clear HCC HC0 h
    go_enter Try.func16, Try.ntmps16
    go_upto_region 3 with (go_at_call 48; refine Calls.mono HH.out ?_; clear HH; rintro e w1 ⟨rfl, hcut⟩)
    clear c7 r0 hn3 hn4
    generalize m.closed = c at hcut HP2 hi hco
    have hla := hi.la
    have hlen := hi.len
    obtain ⟨LB, HLB⟩ : ∃ LB, Hid (c.blocks.length = LB) := ⟨_, rfl⟩
    obtain ⟨LA, HLA⟩ : ∃ LA, Hid (c.lasting = LA) := ⟨_, rfl⟩
    have hLB : LB ≤ 900 := by rw [← HLB.out]; exact hlen
    have hLA : LA ≤ LB := by rw [← HLB.out, ← HLA.out]; exact hla
    obtain ⟨ob, cb, r1⟩ := hcut.row
    unfold rlcells at r1
    have d6 : w1.cell? ⟨gm, 6, none⟩ = some (.int .i64 (LA : Int)) := by rw [← HLA.out]; exact row_at r1 6 _ rfl
    have d5 : w1.cell? ⟨gm, 5, none⟩ = some (.slice ob LB cb) := by rw [← HLB.out]; exact row_at r1 5 _ rfl
    have d10 := row_at r1 10 _ rfl
    -- the rest, from f on, over a log x with these blocks
    have HREST : Hid (∀ (x : RLg) (f : Nat) (R1 : RD) (N1 : Nat) (wx : World), x.blocks = c.blocks → x.at_ = c.at_ → x.size = c.size → LA ≤ f → f ≤ LB → R1.ops + 3000 < 9223372036854775806 → N1 + 6000 < 1000000000 → RLS w gm r F x R1 N1 wx → Calls Try.prog 50 #[.pointer (some ⟨gm, 0, none⟩), .int .i64 f, .int .i64 LB] wx fun e w' => e = .returned (.int .i64 (rlayR x.at_ x.size ((x.blocks.drop f).take (x.blocks.length - f)) R1).1) ∧ RLS w gm r F x (rlayR x.at_ x.size ((x.blocks.drop f).take (x.blocks.length - f)) R1).2 (N1 + 4 * (LB - f)) w') := fun x f R1 N1 wx e1 e2 e3 hf1 hf2 ho1 hn1 hS => by
      have hxl : x.blocks.length = LB := by rw [e1]; exact HLB.out
      have := hS.lay f LB (by rw [e1]; exact drop_ok hi.ok (by rw [HLA.out]; exact hf1)) hf2 (by omega) (by omega) (by rw [e2]; exact hi.at_) (by rw [e3]; exact hi.sz) (by omega) (by omega)
      rw [hxl]; exact this
    by_cases hall : LA = LB
    · have hall' : ((LA : Int) == (LB : Int)) = true := by simp [hall]
      have hall2 : (LA : Int) = (LB : Int) := by omega
      have HK : Hid (∀ w', RLS w gm r F c R (N + 8000) w' → PP (.returned (.int .i64 0)) w') := fun w' k => HP2.out 0 c R w' (by unfold rflushC; rw [if_pos (by rw [HLA.out, HLB.out]; exact hall)]) k
      go_quiet (fail)
      have s9 := (hcut.below (below_drewN (Below.refl w1.heap.size w1) nq)).grow (show N ≤ N + 8000 by omega) (by omega)
      clear hcut r1 d5 d6 d10
      generalize w1.drewN nq = wd at s9 ⊢
      go_wp2
      try go_ret
      exact HK.out _ s9
    · have hall' : ((LA : Int) == (LB : Int)) = false := by simp; omega
      have hall2 : ¬ (LA : Int) = (LB : Int) := by omega
      have hnl : ¬ c.lasting = c.blocks.length := by rw [HLA.out, HLB.out]; exact hall
      go_quiet (fail)
      have s9 := hcut.below (below_drewN (Below.refl w1.heap.size w1) nq)
      clear hcut r1 d5 d6 d10
      generalize w1.drewN nq = wd at s9 ⊢
      obtain ⟨ob2, cb2, r2⟩ := s9.row
      unfold rlcells at r2
      have d6 : wd.cell? ⟨gm, 6, none⟩ = some (.int .i64 (LA : Int)) := by rw [← HLA.out]; exact row_at r2 6 _ rfl
      have d10 := row_at r2 10 _ rfl
      go_upto_region 6 with fail
      clear d6
      cases hold : c.old with
      | true =>
        rw [hold] at d10
        have hRF : rflushC c R = rrestR c LA R := by unfold rflushC; rw [if_neg hnl, if_pos hold, HLA.out]
        clear hold r2
        have hRn : N + 6000 < 1000000000 := by omega
        have hL2 := HREST.out (c) (LA) R (N) wd rfl rfl rfl (by omega) (by omega) (by omega) (by omega) s9
        have hRG : rrestR (c) (LA) R = if (rlayR (c).at_ (c).size (((c).blocks.drop (LA)).take ((c).blocks.length - (LA))) R).1 = 0 then (0, { (c) with lasting := (c).blocks.length, dur := (c).fin }, (rlayR (c).at_ (c).size (((c).blocks.drop (LA)).take ((c).blocks.length - (LA))) R).2) else ((rlayR (c).at_ (c).size (((c).blocks.drop (LA)).take ((c).blocks.length - (LA))) R).1, (c), (rlayR (c).at_ (c).size (((c).blocks.drop (LA)).take ((c).blocks.length - (LA))) R).2) := rfl
        generalize rlayR (c).at_ (c).size (((c).blocks.drop (LA)).take ((c).blocks.length - (LA))) R = y at hL2 hRG
        obtain ⟨E2, R2⟩ := y
        simp only at hL2 hRG
        rw [hRG] at hRF
        have HL2 : Hid _ := hL2
        obtain ⟨ob5, cb5, r5⟩ := s9.row
        unfold rlcells at r5
        have h5 : wd.cell? ⟨gm, 5, none⟩ = some (.slice ob5 LB cb5) := by rw [← HLB.out]; exact row_at r5 5 _ rfl
        clear hL2 r5 s9
        by_cases hE2 : E2 = 0
        · have hE2' : (E2 != 0) = false := by simp [hE2]
          rw [if_pos hE2] at hRF
          have HK : Hid (∀ w', RLS w gm r F { (c) with lasting := (c).blocks.length, dur := (c).fin } R2 ((N) + 4 * (LB - (LA))) w' → PP (.returned (.int .i64 0)) w') := fun w' k => HP2.out 0 _ R2 w' hRF (k.grow (by omega) (by omega))
          go_upto_region 15 with (go_at_call 50; refine Calls.mono HL2.out ?_; clear HL2; rintro e w6 ⟨rfl, s6⟩)
          obtain ⟨ob6, cb6, r6⟩ := s6.row
          unfold rlcells at r6
          have e5 : w6.cell? ⟨gm, 5, none⟩ = some (.slice ob6 LB cb6) := by rw [← HLB.out]; exact row_at r6 5 _ rfl
          have e6 := row_at r6 6 _ rfl
          have k6 := row_frozen r6 6
          have s7 : RLS w gm r F { (c) with lasting := (c).blocks.length } R2 ((N) + 4 * (LB - (LA))) (w6.setCell ⟨gm, 6, none⟩ (.int .i64 (LB : Int))) := s6.set 6 _ rfl (fun pd v => by rw [← HLB.out]; rfl)
          clear r6 h5
          go_upto_region 16 with fail
          clear e5 e6 k6 s6
          generalize w6.setCell ⟨gm, 6, none⟩ (.int .i64 (LB : Int)) = w7 at s7 ⊢
          obtain ⟨ob7, cb7, r7⟩ := s7.row
          unfold rlcells at r7
          have e8 := row_at r7 8 _ rfl
          have e9 := row_at r7 9 _ rfl
          have k9 := row_frozen r7 9
          have s8 : RLS w gm r F { (c) with lasting := (c).blocks.length, dur := (c).fin } R2 ((N) + 4 * (LB - (LA))) (w7.setCell ⟨gm, 9, none⟩ (.int .u64 c.fin)) := s7.set 9 _ rfl (fun pd v => rfl)
          have HKK : Hid _ := HK.out _ s8
          clear r7 s7 s8 HK
          go_wp2
          try go_ret
          exact HKK.out
        · have hE2' : (E2 != 0) = true := by simp [hE2]
          rw [if_neg hE2] at hRF
          have HK : Hid (∀ w', RLS w gm r F (c) R2 ((N) + 4 * (LB - (LA))) w' → PP (.returned (.int .i64 E2)) w') := fun w' k => HP2.out E2 _ R2 w' hRF (k.grow (by omega) (by omega))
          go_wp2_with (go_at_call 50; refine Calls.mono HL2.out ?_; clear HL2; rintro e w6 ⟨rfl, s6⟩)
          try go_ret
          exact HK.out _ s6
      | false =>
        rw [hold] at d10
        have hlt1 : LA + 1 ≤ LB := by omega
        have hL1 := s9.lay LA (LA + 1) (drop_ok hi.ok (Nat.le_of_eq HLA.out)) (by omega) (by rw [HLB.out]; exact hlt1) (by omega) hi.at_ hi.sz (by omega) (by omega)
        have hop1 := rlayR_ops c.at_ c.size ((c.blocks.drop LA).take (LA + 1 - LA)) R
        have hlen1 : ((c.blocks.drop LA).take (LA + 1 - LA)).length ≤ 1 := by rw [List.length_take]; omega
        have hRF : rflushC c R = if (rlayR c.at_ c.size ((c.blocks.drop LA).take (LA + 1 - LA)) R).1 = 0 then rrestR { c with old := true } (LA + 1) (rlayR c.at_ c.size ((c.blocks.drop LA).take (LA + 1 - LA)) R).2 else ((rlayR c.at_ c.size ((c.blocks.drop LA).take (LA + 1 - LA)) R).1, c, (rlayR c.at_ c.size ((c.blocks.drop LA).take (LA + 1 - LA)) R).2) := by
          unfold rflushC; rw [if_neg hnl, if_neg (by rw [hold]; decide), HLA.out]
        generalize rlayR c.at_ c.size ((c.blocks.drop LA).take (LA + 1 - LA)) R = x1 at hL1 hRF hop1
        obtain ⟨E1, R1⟩ := x1
        simp only at hL1 hRF hop1
        have HL1 : Hid _ := hL1
        have hw3 : IntKind.i64.wrap ((LA : Int) + 1) = ((LA + 1 : Nat) : Int) := by rw [IntKind.wrap_i64]; omega
        clear hL1 hold r2
        by_cases hE1 : E1 = 0
        · have hE1' : (E1 != 0) = false := by simp [hE1]
          rw [if_pos hE1] at hRF
          go_upto_region 10 with (go_at_call 50; refine Calls.mono HL1.out ?_; clear HL1; rintro e w3 ⟨rfl, s3⟩)
          obtain ⟨ob3, cb3, r3⟩ := s3.row
          unfold rlcells at r3
          have f10 := row_at r3 10 _ rfl
          have g10 := row_frozen r3 10
          have s4 : RLS w gm r F { c with old := true } R1 (N + 4 * (LA + 1 - LA)) (w3.setCell ⟨gm, 10, none⟩ (.bool true)) := s3.set 10 _ rfl (fun pd v => rfl)
          clear d10 s9 r3
          go_upto_region 12 with fail
          clear f10 g10 s3
          generalize w3.setCell ⟨gm, 10, none⟩ (.bool true) = w4 at s4 ⊢
          have hL2 := HREST.out ({ c with old := true }) (LA + 1) R1 (N + 4 * (LA + 1 - LA)) w4 rfl rfl rfl (by omega) (by omega) (by omega) (by omega) s4
          have hRG : rrestR ({ c with old := true }) (LA + 1) R1 = if (rlayR ({ c with old := true }).at_ ({ c with old := true }).size ((({ c with old := true }).blocks.drop (LA + 1)).take (({ c with old := true }).blocks.length - (LA + 1))) R1).1 = 0 then (0, { ({ c with old := true }) with lasting := ({ c with old := true }).blocks.length, dur := ({ c with old := true }).fin }, (rlayR ({ c with old := true }).at_ ({ c with old := true }).size ((({ c with old := true }).blocks.drop (LA + 1)).take (({ c with old := true }).blocks.length - (LA + 1))) R1).2) else ((rlayR ({ c with old := true }).at_ ({ c with old := true }).size ((({ c with old := true }).blocks.drop (LA + 1)).take (({ c with old := true }).blocks.length - (LA + 1))) R1).1, ({ c with old := true }), (rlayR ({ c with old := true }).at_ ({ c with old := true }).size ((({ c with old := true }).blocks.drop (LA + 1)).take (({ c with old := true }).blocks.length - (LA + 1))) R1).2) := rfl
          generalize rlayR ({ c with old := true }).at_ ({ c with old := true }).size ((({ c with old := true }).blocks.drop (LA + 1)).take (({ c with old := true }).blocks.length - (LA + 1))) R1 = y at hL2 hRG
          obtain ⟨E2, R2⟩ := y
          simp only at hL2 hRG
          rw [hRG] at hRF
          have HL2 : Hid _ := hL2
          obtain ⟨ob5, cb5, r5⟩ := s4.row
          unfold rlcells at r5
          have h5 : w4.cell? ⟨gm, 5, none⟩ = some (.slice ob5 LB cb5) := by rw [← HLB.out]; exact row_at r5 5 _ rfl
          clear hL2 r5 s4
          by_cases hE2 : E2 = 0
          · have hE2' : (E2 != 0) = false := by simp [hE2]
            rw [if_pos hE2] at hRF
            have HK : Hid (∀ w', RLS w gm r F { ({ c with old := true }) with lasting := ({ c with old := true }).blocks.length, dur := ({ c with old := true }).fin } R2 ((N + 4 * (LA + 1 - LA)) + 4 * (LB - (LA + 1))) w' → PP (.returned (.int .i64 0)) w') := fun w' k => HP2.out 0 _ R2 w' hRF (k.grow (by omega) (by omega))
            go_upto_region 15 with (go_at_call 50; refine Calls.mono HL2.out ?_; clear HL2; rintro e w6 ⟨rfl, s6⟩)
            obtain ⟨ob6, cb6, r6⟩ := s6.row
            unfold rlcells at r6
            have e5 : w6.cell? ⟨gm, 5, none⟩ = some (.slice ob6 LB cb6) := by rw [← HLB.out]; exact row_at r6 5 _ rfl
            have e6 := row_at r6 6 _ rfl
            have k6 := row_frozen r6 6
            have s7 : RLS w gm r F { ({ c with old := true }) with lasting := ({ c with old := true }).blocks.length } R2 ((N + 4 * (LA + 1 - LA)) + 4 * (LB - (LA + 1))) (w6.setCell ⟨gm, 6, none⟩ (.int .i64 (LB : Int))) := s6.set 6 _ rfl (fun pd v => by rw [← HLB.out]; rfl)
            clear r6 h5
            go_upto_region 16 with fail
            clear e5 e6 k6 s6
            generalize w6.setCell ⟨gm, 6, none⟩ (.int .i64 (LB : Int)) = w7 at s7 ⊢
            obtain ⟨ob7, cb7, r7⟩ := s7.row
            unfold rlcells at r7
            have e8 := row_at r7 8 _ rfl
            have e9 := row_at r7 9 _ rfl
            have k9 := row_frozen r7 9
            have s8 : RLS w gm r F { ({ c with old := true }) with lasting := ({ c with old := true }).blocks.length, dur := ({ c with old := true }).fin } R2 ((N + 4 * (LA + 1 - LA)) + 4 * (LB - (LA + 1))) (w7.setCell ⟨gm, 9, none⟩ (.int .u64 c.fin)) := s7.set 9 _ rfl (fun pd v => rfl)
            have HKK : Hid _ := HK.out _ s8
            clear r7 s7 s8 HK
            go_wp2
            try go_ret
            exact HKK.out
          · have hE2' : (E2 != 0) = true := by simp [hE2]
            rw [if_neg hE2] at hRF
            have HK : Hid (∀ w', RLS w gm r F ({ c with old := true }) R2 ((N + 4 * (LA + 1 - LA)) + 4 * (LB - (LA + 1))) w' → PP (.returned (.int .i64 E2)) w') := fun w' k => HP2.out E2 _ R2 w' hRF (k.grow (by omega) (by omega))
            go_wp2_with (go_at_call 50; refine Calls.mono HL2.out ?_; clear HL2; rintro e w6 ⟨rfl, s6⟩)
            try go_ret
            exact HK.out _ s6
        · have hE1' : (E1 != 0) = true := by simp [hE1]
          rw [if_neg hE1] at hRF
          have HK : Hid (∀ w', RLS w gm r F c R1 (N + 4 * (LA + 1 - LA)) w' → PP (.returned (.int .i64 E1)) w') := fun w' k => HP2.out E1 c R1 w' hRF (k.grow (by omega) (by omega))
          clear s9
          go_wp2_with (go_at_call 50; refine Calls.mono HL1.out ?_; clear HL1; rintro e w3 ⟨rfl, s3⟩)
          try go_ret
          exact HK.out _ s3
end Go.Proofs.Ytgnedbagelhcbaa
namespace Go.Proofs.Ytgnedbagelhcbaa
open Go.ChangeShapes Go.WideShapes Go.ChangeAt Go.RowKit
set_option linter.unusedVariables false
set_option linter.unusedSimpArgs false
set_option maxRecDepth 20000
def freeM (m : RLg) : Int := if m.open_.size = 0 then m.size - m.blocks.length else m.size - m.blocks.length - 1
theorem RLS.free {w wr : World} {gm r : Nat} {F : Nat → Prop} {m : RLg} {R : RD} {N : Nat} (h : RLS w gm r F m R N wr) (hl : m.blocks.length ≤ 1000) (hz : 0 ≤ m.size ∧ m.size ≤ 4294967295) : Calls Try.prog 26 #[.pointer (some ⟨gm, 0, none⟩)] wr fun e w' => e = .returned (.int .i64 (freeM m)) ∧ RLS w gm r F m R N w' := by
  obtain ⟨oa, cap, r0⟩ := h.row
  unfold rlcells at r0
  obtain ⟨LB, HLB⟩ : ∃ LB, Hid (m.blocks.length = LB) := ⟨_, rfl⟩
  have hLB : LB ≤ 1000 := by rw [← HLB.out]; exact hl
  have c7 := row_at r0 7 _ rfl
  have c2 := row_at r0 2 _ rfl
  have c5 : wr.cell? ⟨gm, 5, none⟩ = some (.slice oa LB cap) := by rw [← HLB.out]; exact row_at r0 5 _ rfl
  have v1 : IntKind.i64.wrap (m.size - (LB : Int)) = m.size - LB := by rw [IntKind.wrap_i64]; omega
  have v2 : IntKind.i64.wrap (m.size - (LB : Int) - 1) = m.size - LB - 1 := by rw [IntKind.wrap_i64]; omega
  by_cases hne : m.open_.size = 0
  · have he : m.open_ = { data := #[] } := ByteArray.ext (Array.eq_empty_of_size_eq_zero hne)
    have e : freeM m = m.size - LB := by unfold freeM; rw [if_pos hne, HLB.out]
    rw [e]
    rw [he] at c7
    go_enter Try.func26, Try.ntmps26
    go_upto_region 3 with fail
    go_quiet (fail)
    have s9 := h.below (below_drewN (Below.refl wr.heap.size wr) nq)
    generalize wr.drewN nq = wd at s9 ⊢
    have HS : Hid _ := s9
    clear s9 h r0
    go_wp2
    try go_ret
    exact ⟨rfl, HS.out⟩
  · have hn2 := str_ne m.open_ (by omega)
    have hn3 := hn2.1
    have hn4 := hn2.2
    clear hn2
    have e : freeM m = m.size - LB - 1 := by unfold freeM; rw [if_neg hne, HLB.out]
    rw [e]
    go_enter Try.func26, Try.ntmps26
    go_upto_region 2 with fail
    go_quiet (fail)
    have s9 := h.below (below_drewN (Below.refl wr.heap.size wr) nq)
    generalize wr.drewN nq = wd at s9 ⊢
    have HS : Hid _ := s9
    clear s9 h r0
    go_wp2
    try go_ret
    exact ⟨rfl, HS.out⟩
def spentM (m : RLg) (lsn : Int) : Nat := spentL m.dur lsn ((m.blocks.take m.lasting).map (·.off))
def fromM (m : RLg) (lsn : Int) : Int := IntKind.u32.wrap (m.first + spentM m lsn)
set_option maxHeartbeats 4000000 in
theorem rfrom_any (gm : Nat) (pd vb : Value) (m : RLg) (lsn : Int) (w : World) (hr : Row w gm (rlcells pd vb m) 49) (ho : MOwn w vb m.blocks) (hl : m.blocks.length ≤ 1000) (hla : m.lasting ≤ m.blocks.length) :
    Calls Try.prog 18 #[.pointer (some ⟨gm, 0, none⟩), .int .u64 lsn] w fun e w' => e = .returned (.int .u32 (fromM m lsn)) ∧ w' = w := by
  obtain ⟨LA, HLA⟩ : ∃ LA, Hid (m.lasting = LA) := ⟨_, rfl⟩
  obtain ⟨LB, HLB⟩ : ∃ LB, Hid (m.blocks.length = LB) := ⟨_, rfl⟩
  obtain ⟨oa, ca, hv⟩ := ho.form
  have hAB : LA ≤ LB := by rw [← HLA.out, ← HLB.out]; exact hla
  have hLB : LB ≤ 1000 := by rw [← HLB.out]; exact hl
  have HAT : Hid (∀ k y, k < LA → ((m.blocks.take m.lasting).map (·.off))[k]? = some y → ∃ a : Addr, oa = some a ∧ w.cell? ⟨(a.add (k * 4)).block, (a.add (k * 4)).off + 2, none⟩ = some (.int .u64 y)) := fun k y hk hy => by
    rw [HLA.out, List.getElem?_map, List.getElem?_take, if_pos hk] at hy
    rcases ho with ⟨_, q⟩ | ⟨g, off, cap, cur, q1, q2, q3, q4, q5, q6⟩
    · rw [q] at hy; simp at hy
    · rw [hv] at q1
      cases q1
      cases hb : m.blocks[k]? with
      | none => rw [hb] at hy; simp at hy
      | some c =>
        rw [hb] at hy
        simp at hy
        refine ⟨⟨g, off, none⟩, rfl, ?_⟩
        rw [Addr.add_mid, cell_of_row w g _ _ _ _ q2]
        have := q6 (k * 4 + 2) (.int .u64 y) (by rw [Ck.flat_at m.blocks k 2 c hb (by omega), ← hy]; rfl)
        rw [← Nat.add_assoc] at this; exact this
  obtain ⟨xs, HX⟩ : ∃ xs, Hid ((m.blocks.take m.lasting).map (·.off) = xs) := ⟨_, rfl⟩
  have HN : Hid (xs.length = LA) := by show xs.length = LA; rw [← HX.out, List.length_map, List.length_take, HLA.out, HLB.out]; omega
  rw [HX.out] at HAT
  have c6 : w.cell? ⟨gm, 6, none⟩ = some (.int .i64 (LA : Int)) := by rw [← HLA.out]; exact row_at hr 6 _ rfl
  have c5 : w.cell? ⟨gm, 5, none⟩ = some (.slice oa LB ca) := by rw [← HLB.out, ← hv]; exact row_at hr 5 _ rfl
  have c9 : w.cell? ⟨gm, 9, none⟩ = some (.int .u64 m.dur) := row_at hr 9 _ rfl
  have c4 : w.cell? ⟨gm, 4, none⟩ = some (.int .u32 m.first) := row_at hr 4 _ rfl
  have HGET : Hid (∀ k : Nat, xs.drop k = [] ∨ ∃ x, xs.drop k = x :: xs.drop (k + 1) ∧ k < xs.length) := fun k => by
    by_cases h : k < xs.length
    · exact Or.inr ⟨xs[k], (List.drop_eq_getElem_cons h), h⟩
    · exact Or.inl (List.drop_of_length_le (by omega))
  have HNX : Hid (∀ (k : Nat) (y : Int) (r : List Int), xs.drop (k + 1) = y :: r → xs[k + 1]? = some y) := fun k y r h => by
    have := congrArg (fun l => l[0]?) h
    simpa [List.getElem?_drop] using this
  obtain ⟨S, HS⟩ : ∃ S, Hid (spentL m.dur lsn xs = S) := ⟨_, rfl⟩
  have hSle : S ≤ LA := by rw [← HS.out, ← HN.out]; exact spentL_le _ _ _
  have HFV : Hid (fromM m lsn = IntKind.u32.wrap (m.first + S)) := by show IntKind.u32.wrap (m.first + spentL m.dur lsn ((m.blocks.take m.lasting).map (·.off))) = _; rw [HX.out, HS.out]
  rw [HFV.out]
  have HSW : Hid (∀ k : Nat, k ≤ LA → IntKind.u32.wrap (k : Int) = k) := fun k hk => by rw [IntKind.wrap_u32]; omega
  clear hr ho hv
  go_enter Try.func18, Try.ntmps18
  go_wp2
  go_loopw [5, 6] (fun i _ wr => ∃ (k : Nat), k ≤ LA ∧ i = .int .i64 k ∧ wr = w ∧ S = k + spentL m.dur lsn (xs.drop k)) (fun i _ _ => LA - (intOf i).toNat)
  case atStart => exact ⟨0, by omega, rfl, rfl, by rw [← HS.out]; simp⟩
  case round =>
    obtain ⟨k, hk, rfl, rfl, hS⟩ := hrel
    have vk := HSW.out k hk
    by_cases hkn : k < LA
    · have hkn' : (k : Int) < (LA : Int) := by omega
      have hdr : ∃ x, xs.drop k = x :: xs.drop (k + 1) := by
        rcases HGET.out k with h | ⟨x, h, _⟩
        · have := congrArg List.length h; rw [List.length_drop, HN.out] at this; simp at this; omega
        · exact ⟨x, h⟩
      obtain ⟨x, hx⟩ := hdr
      have v1 : IntKind.i64.wrap ((k : Int) + 1) = (k : Int) + 1 := by rw [IntKind.wrap_i64]; omega
      cases hd : xs.drop (k + 1) with
      | nil =>
        have hlast : k + 1 = LA := by have := congrArg List.length hd; rw [List.length_drop, HN.out] at this; simp at this; omega
        have hl' : ¬ (k : Int) + 1 < (LA : Int) := by omega
        have e1 : spentL m.dur lsn (xs.drop k) = if lsn < m.dur then 0 else 1 := by rw [hx, hd]; rfl
        rw [e1] at hS
        by_cases hq : lsn < m.dur
        · rw [if_pos hq] at hS
          subst hS
          clear hx hd e1 hlast
          go_wp2
          go_ret
          exact ⟨by simp [IntKind.wrap_u32], rfl⟩
        · rw [if_neg hq] at hS
          have hdn : xs.drop (k + 1) = [] := hd
          clear hx hd e1
          go_wp2
          go_roundw
          case rel => exact ⟨k + 1, by omega, by go_num, by first | trivial | rfl, by rw [hS, hdn]; rfl⟩
          case measure => simp [intOf]; omega
      | cons y r =>
        have hlt : k + 1 < LA := by have := congrArg List.length hd; rw [List.length_drop, HN.out] at this; simp at this; omega
        have hl' : (k : Int) + 1 < (LA : Int) := by omega
        have hl2 : (k : Int) + 1 < (LB : Int) := by omega
        have hl0 : (0 : Int) ≤ (k : Int) + 1 := by omega
        have e1 : spentL m.dur lsn (xs.drop k) = if lsn < y then 0 else 1 + spentL m.dur lsn (y :: r) := by rw [hx, hd]; rfl
        rw [e1] at hS
        obtain ⟨a, rfl, hcell⟩ := HAT.out (k + 1) y hlt (HNX.out k y r hd)
        by_cases hq : lsn < y
        · rw [if_pos hq] at hS
          subst hS
          clear hx hd e1
          go_wp2
          go_ret
          exact ⟨by simp [IntKind.wrap_u32], rfl⟩
        · rw [if_neg hq, ← hd] at hS
          clear hx hd e1
          go_wp2
          go_roundw
          case rel => exact ⟨k + 1, by omega, by go_num, by first | trivial | rfl, by omega⟩
          case measure => simp [intOf]; omega
    · obtain rfl : LA = k := by omega
      have hkn' : ¬ (LA : Int) < (LA : Int) := by omega
      have e1 : xs.drop LA = [] := List.drop_of_length_le (by rw [HN.out]; exact Nat.le_refl _)
      rw [e1] at hS
      have e2 : S = LA := hS
      subst e2
      clear hS e1
      go_wp2
      go_ret
      exact ⟨by simp [IntKind.wrap_u32], rfl⟩
theorem RLS.from {w wr : World} {gm r : Nat} {F : Nat → Prop} {m : RLg} {R : RD} {N : Nat} (h : RLS w gm r F m R N wr) (lsn : Int) (hl : m.blocks.length ≤ 1000) (hla : m.lasting ≤ m.blocks.length) : Calls Try.prog 18 #[.pointer (some ⟨gm, 0, none⟩), .int .u64 lsn] wr fun e w' => e = .returned (.int .u32 (fromM m lsn)) ∧ RLS w gm r F m R N w' := by
  have hh := h
  obtain ⟨vb, vs, vp, vf, h1, h2, h3⟩ := h
  refine (rfrom_any gm _ vb m lsn wr h1.row h1.bl hl hla).mono ?_
  rintro e w' ⟨rfl, rfl⟩
  exact ⟨rfl, hh⟩
def RLg.trim (m : RLg) (lsn : Int) : RLg := { m with blocks := m.blocks.drop (spentM m lsn), first := IntKind.u32.wrap (m.first + spentM m lsn), lasting := m.lasting - spentM m lsn }
theorem rsetB {w w1 : World} {gm : Nat} {pd vb v' : Value} {m : RLg} {bs' : List Ck.O} (hr : Row w1 gm (rlcells pd vb m) 49) (b : Below w.heap.size w w1) (hv : MOwn w v' bs') (hng : vb.ownBlock ≠ some gm) (hsub : ∀ j, v'.ownBlock = some j → vb.ownBlock = some j) : RCut w gm pd vb { m with blocks := bs' } (w1.setCell ⟨gm, 5, none⟩ v') := by
  have o : Off (· = gm) w1 (w1.setCell ⟨gm, 5, none⟩ v') := Off.of_setCell _ _ _ rfl
  have hn2 : v'.ownBlock ≠ some gm := fun q => hng (hsub _ q)
  exact ⟨v', row_set hr 5 v', (hv.keep b).off o (fun j q q2 => hn2 (q2 ▸ q)), hn2, (Off.of_below (F := fun j => j = gm ∨ vb.ownBlock = some j) b).trans o (fun j q => Or.inl (Or.inl q)), fun j q => Or.inl (hsub j q)⟩
theorem MOwn.dropI {w : World} {g off n cap : Nat} {os : List Ck.O} (h : MOwn w (.slice (some ⟨g, off, none⟩) n cap) os) (k : Nat) (hk : k ≤ os.length) (hn : n = os.length) : MOwn w (.slice (if cap = k then some ⟨g, off, none⟩ else some ⟨g, off + k * 4, none⟩) (n - k) (cap - k)) (os.drop k) := by
  by_cases hc : cap = k
  · rw [if_pos hc]
    rcases h with ⟨q, _⟩ | ⟨g2, off2, cap2, cur, q, hg, hle, hcm, hsz, hcur⟩
    · cases q
    · cases q
      have he : os.drop k = [] := List.drop_of_length_le (by omega)
      rw [he]
      refine Or.inr ⟨g, off, cap - k, cur, ?_, hg, by simp, by omega, by omega, fun j u hj => by simp [Ck.flat] at hj⟩
      show Value.slice _ _ _ = Value.slice _ 0 _
      congr 1; omega
  · rw [if_neg hc]
    have := h.drop k hk
    rw [Addr.add_mid] at this; exact this
set_option maxHeartbeats 4000000 in
theorem rtrim_any (w : World) (gm : Nat) (pd vb : Value) (m : RLg) (lsn : Int) (hr : Row w gm (rlcells pd vb m) 49) (ho : MOwn w vb m.blocks) (hng : vb.ownBlock ≠ some gm) (hl : m.blocks.length ≤ 1000) (hla : m.lasting ≤ m.blocks.length) (hfs : 0 ≤ m.first ∧ m.first ≤ 4294967295) :
    Calls Try.prog 20 #[.pointer (some ⟨gm, 0, none⟩), .int .u64 lsn] w fun e w' => e = .returned (.tuple #[]) ∧ RCut w gm pd vb (m.trim lsn) w' := by
  obtain ⟨PP, HPP⟩ : ∃ PP : World → Prop, Hid (PP = fun w' => RCut w gm pd vb (m.trim lsn) w') := ⟨_, rfl⟩
  have e0 : (fun e w' => e = Ending.returned (.tuple #[]) ∧ RCut w gm pd vb (m.trim lsn) w') = (fun e w' => e = Ending.returned (.tuple #[]) ∧ PP w') := by rw [HPP.out]
  rw [e0]
  clear e0
  have hsp : spentM m lsn ≤ m.lasting := by
    have h1 := spentL_le m.dur lsn ((m.blocks.take m.lasting).map (·.off))
    rw [List.length_map, List.length_take] at h1
    unfold spentM; omega
  have HFR : Hid (∀ wx, Below w.heap.size w wx → Calls Try.prog 18 #[.pointer (some ⟨gm, 0, none⟩), .int .u64 lsn] wx fun e w' => e = .returned (.int .u32 (IntKind.u32.wrap (m.first + spentM m lsn))) ∧ Below wx.heap.size wx w') := fun wx hb => (rfrom_any gm pd vb m lsn wx (hr.below hb hr.lt) (ho.keep hb) hl hla).mono (fun e w' h => ⟨h.1, by rw [h.2]; exact Below.refl _ _⟩)
  have HTR : Hid (∀ w', RCut w gm pd vb { m with blocks := m.blocks.drop (spentM m lsn), first := IntKind.u32.wrap (m.first + spentM m lsn), lasting := m.lasting - spentM m lsn } w' → PP w') := fun w' k => by rw [HPP.out]; exact k
  clear HPP
  generalize spentM m lsn = sp at HFR HTR hsp
  obtain ⟨LA, HLA⟩ : ∃ LA, Hid (m.lasting = LA) := ⟨_, rfl⟩
  obtain ⟨LB, HLB⟩ : ∃ LB, Hid (m.blocks.length = LB) := ⟨_, rfl⟩
  have hAB : LA ≤ LB := by rw [← HLA.out, ← HLB.out]; exact hla
  have hLB : LB ≤ 1000 := by rw [← HLB.out]; exact hl
  have hspA : sp ≤ LA := by rw [← HLA.out]; exact hsp
  have v1 : IntKind.u32.wrap (IntKind.u32.wrap (m.first + (sp : Int)) - m.first) = sp := by rw [IntKind.wrap_u32, IntKind.wrap_u32]; omega
  have v2 : IntKind.i64.wrap (sp : Int) = sp := by rw [IntKind.wrap_i64]; omega
  have v3 : IntKind.u32.wrap (sp : Int) = sp := by rw [IntKind.wrap_u32]; omega
  have v4 : IntKind.i64.wrap ((m.lasting : Int) - sp) = ((m.lasting - sp : Nat) : Int) := by rw [IntKind.wrap_i64]; omega
  have s0 := RCut.refl hr ho hng
  have hsB' : (sp : Int) ≤ (LB : Int) := by omega
  have hsp0 : (0 : Int) ≤ (sp : Int) := by omega
  have ho2 := ho
  rcases ho with ⟨hv, hbl⟩ | ⟨g, off, cap, cur, hv, hg, hle, hcm, hsz, hcur⟩
  · subst hv
    have hLB0 : LB = 0 := by rw [← HLB.out, hbl]; rfl
    have hs0 : sp = 0 := by omega
    unfold rlcells at hr
    subst hs0
    have HV : Hid (MOwn w (.slice none 0 0) (m.blocks.drop 0)) := by rw [List.drop_zero]; exact ho2
    have w1' : IntKind.u32.wrap (IntKind.u32.wrap m.first - m.first) = 0 := by rw [IntKind.wrap_u32, IntKind.wrap_u32]; omega
    have w2' : IntKind.i64.wrap 0 = 0 := by decide
    have w3' : IntKind.u32.wrap 0 = 0 := by decide
    go_enter Try.func20, Try.ntmps20
    go_upto_region 0 with fail
    refine wp_region_held_drew (S := fun w' => Row w' gm #[pd, .int .i64 m.at_, .int .i64 m.size, .int .u32 m.ep, .int .u32 m.first, .slice none 0 0, .int .i64 m.lasting, .string m.open_, .int .u64 m.fin, .int .u64 m.dur, .bool m.old] 49 ∧ Below w.heap.size w w') (by kernel_rfl) ⟨hr, (Below.refl w.heap.size w).drew⟩ fun hS => ?_
    generalize w.drew = W0 at hS ⊢
    refine wpAnyH_take (i := 0) (v := .pointer (some ⟨gm, 0, none⟩)) rfl (by kernel_rfl) (by kernel_rfl) (by kernel_rfl) (fun _ _ _ h => h) (Or.inl ⟨by rfl, fun w _ => by go_simp⟩) hS ?_
    try simp only [Act.put, nz0, nz1, nz2, nz3, nz4, nz5]
    refine wpAnyH_take (i := 1) (v := .int .u64 lsn) rfl (by kernel_rfl) (by kernel_rfl) (by kernel_rfl) (fun _ _ _ h => h) (Or.inl ⟨by rfl, fun w _ => by go_simp⟩) hS ?_
    try simp only [Act.put, nz0, nz1, nz2, nz3, nz4, nz5]
    refine wpAnyH_take (i := 3) (v := .pointer (some ⟨gm, 0, none⟩)) rfl (by kernel_rfl) (by kernel_rfl) (by kernel_rfl) (fun _ _ _ h => h) (Or.inl ⟨by rfl, fun w _ => by go_simp⟩) hS ?_
    try simp only [Act.put, nz0, nz1, nz2, nz3, nz4, nz5]
    refine wpAnyH_take (i := 4) (v := .pointer (some ⟨gm, 0, none⟩)) rfl (by kernel_rfl) (by kernel_rfl) (by kernel_rfl) (fun _ _ _ h => h) (Or.inl ⟨by rfl, fun w _ => by go_simp⟩) hS ?_
    try simp only [Act.put, nz0, nz1, nz2, nz3, nz4, nz5]
    refine wpAnyH_take (i := 5) (v := .pointer (some ⟨gm, 4, none⟩)) rfl (by kernel_rfl) (by kernel_rfl) (by kernel_rfl) (fun _ _ _ h => h) (Or.inl ⟨by rfl, fun w _ => by go_simp⟩) hS ?_
    try simp only [Act.put, nz0, nz1, nz2, nz3, nz4, nz5]
    refine wpAnyH_take (i := 6) (v := .int .u32 m.first) rfl (by kernel_rfl) (by kernel_rfl) (by kernel_rfl) (fun _ _ _ h => h) (Or.inl ⟨by rfl, fun w h => by have c := row_at h.1 4 _ rfl; go_simp⟩) hS ?_
    try simp only [Act.put, nz0, nz1, nz2, nz3, nz4, nz5]
    refine wpAnyH_ready (rs := [2]) (by kernel_rfl) (by simp) ?_
    refine AllReadyH.cons rfl (fun K hK => ?_) AllReadyH.nil
    go_simp
    go_at_call 18
    refine Calls.mono (HFR.out _ hS.2) ?_
    rintro e w1_2 ⟨rfl, hcb⟩
    refine hK.out _ _ (⟨hS.1.below hcb hS.1.lt, hS.2.trans (hcb.mono hS.2.size)⟩) fun hS => ?_
    try simp only [Act.put, nz0, nz1, nz2, nz3, nz4, nz5]
    clear hcb
    refine wpAnyH_take (i := 7) (v := .int .u32 ((0 : Nat) : Int)) rfl (by kernel_rfl) (by kernel_rfl) (by kernel_rfl) (fun _ _ _ h => h) (Or.inl ⟨by rfl, fun w _ => by go_simp⟩) hS ?_
    try simp only [Act.put, nz0, nz1, nz2, nz3, nz4, nz5]
    refine wpAnyH_take (i := 8) (v := .int .i64 ((0 : Nat) : Int)) rfl (by kernel_rfl) (by kernel_rfl) (by kernel_rfl) (fun _ _ _ h => h) (Or.inl ⟨by rfl, fun w _ => by go_simp⟩) hS ?_
    try simp only [Act.put, nz0, nz1, nz2, nz3, nz4, nz5]
    refine wpAnyH_take (i := 9) (v := .int .i64 ((0 : Nat) : Int)) rfl (by kernel_rfl) (by kernel_rfl) (by kernel_rfl) (fun _ _ _ h => h) (Or.inl ⟨by rfl, fun w _ => by go_simp⟩) hS ?_
    try simp only [Act.put, nz0, nz1, nz2, nz3, nz4, nz5]
    refine wpAnyH_done (by kernel_rfl) ?_ _
    have c5 := row_at hS.1 5 _ rfl
    have g5 := row_frozen hS.1 5
    have t1 : RCut w gm pd (.slice none 0 0) { m with blocks := m.blocks.drop 0 } (w1_2.setCell ⟨gm, 5, none⟩ (.slice none 0 0)) := rsetB hS.1 hS.2 HV.out hng (fun j q => q)
    go_upto_region 2 with fail
    generalize w1_2.setCell ⟨gm, 5, none⟩ (.slice none 0 0) = w5 at t1 ⊢
    clear c5 g5 hS
    obtain ⟨o6, c6, r6⟩ := t1.row
    unfold rlcells at r6
    have d4 := row_at r6 4 _ rfl
    have k4 := row_frozen r6 4
    have t2 : RCut w gm pd (.slice none 0 0) { m with blocks := m.blocks.drop 0, first := IntKind.u32.wrap (m.first + (0 : Nat)) } (w5.setCell ⟨gm, 4, none⟩ (.int .u32 m.first)) := t1.set 4 _ rfl (fun v => by rw [show IntKind.u32.wrap (m.first + ((0 : Nat) : Int)) = m.first by rw [IntKind.wrap_u32]; omega]; rfl)
    clear r6 t1
    go_upto_region 3 with fail
    clear d4 k4
    generalize w5.setCell ⟨gm, 4, none⟩ (.int .u32 m.first) = w6 at t2 ⊢
    obtain ⟨o7, c7, r7⟩ := t2.row
    unfold rlcells at r7
    have d6 := row_at r7 6 _ rfl
    have k6 := row_frozen r7 6
    have t3 := t2.set (m' := { m with blocks := m.blocks.drop 0, first := IntKind.u32.wrap (m.first + (0 : Nat)), lasting := m.lasting - 0 }) 6 (.int .i64 ((m.lasting : Int))) rfl (fun v => by simp; rfl)
    have HK : Hid _ := HTR.out _ t3
    clear r7 t2 t3
    go_wp2
    exact bodyPost_end (results_none rfl _ _ _) rfl ⟨rfl, HK.out⟩
  · rw [HLB.out] at hv hle
    subst hv
    unfold rlcells at hr
    have hcap' : (LB : Int) ≤ (cap : Int) := by omega
    have HV0 := ho2.dropI sp (by rw [HLB.out]; omega) HLB.out.symm
    have HSUB : Hid (∀ j, (Value.slice (if cap = sp then some ⟨g, off, none⟩ else some ⟨g, off + sp * 4, none⟩) (LB - sp) (cap - sp)).ownBlock = some j → (Value.slice (some ⟨g, off, none⟩) LB cap).ownBlock = some j) := fun j q => by
      split at q
      · exact q
      · exact q
    obtain ⟨ob, Hob⟩ : ∃ ob, Hid ((if cap = sp then some (⟨g, off, none⟩ : Addr) else some ⟨g, off + sp * 4, none⟩) = ob) := ⟨_, rfl⟩
    rw [Hob.out] at HV0 HSUB
    have HV : Hid _ := HV0
    clear HV0
    go_enter Try.func20, Try.ntmps20
    go_upto_region 0 with fail
    refine wp_region_held_drew (S := fun w' => Row w' gm #[pd, .int .i64 m.at_, .int .i64 m.size, .int .u32 m.ep, .int .u32 m.first, .slice (some ⟨g, off, none⟩) LB cap, .int .i64 m.lasting, .string m.open_, .int .u64 m.fin, .int .u64 m.dur, .bool m.old] 49 ∧ Below w.heap.size w w') (by kernel_rfl) ⟨hr, (Below.refl w.heap.size w).drew⟩ fun hS => ?_
    generalize w.drew = W0 at hS ⊢
    refine wpAnyH_take (i := 0) (v := .pointer (some ⟨gm, 0, none⟩)) rfl (by kernel_rfl) (by kernel_rfl) (by kernel_rfl) (fun _ _ _ h => h) (Or.inl ⟨by rfl, fun w _ => by go_simp⟩) hS ?_
    try simp only [Act.put, nz0, nz1, nz2, nz3, nz4, nz5]
    refine wpAnyH_take (i := 1) (v := .int .u64 lsn) rfl (by kernel_rfl) (by kernel_rfl) (by kernel_rfl) (fun _ _ _ h => h) (Or.inl ⟨by rfl, fun w _ => by go_simp⟩) hS ?_
    try simp only [Act.put, nz0, nz1, nz2, nz3, nz4, nz5]
    refine wpAnyH_take (i := 3) (v := .pointer (some ⟨gm, 0, none⟩)) rfl (by kernel_rfl) (by kernel_rfl) (by kernel_rfl) (fun _ _ _ h => h) (Or.inl ⟨by rfl, fun w _ => by go_simp⟩) hS ?_
    try simp only [Act.put, nz0, nz1, nz2, nz3, nz4, nz5]
    refine wpAnyH_take (i := 4) (v := .pointer (some ⟨gm, 0, none⟩)) rfl (by kernel_rfl) (by kernel_rfl) (by kernel_rfl) (fun _ _ _ h => h) (Or.inl ⟨by rfl, fun w _ => by go_simp⟩) hS ?_
    try simp only [Act.put, nz0, nz1, nz2, nz3, nz4, nz5]
    refine wpAnyH_take (i := 5) (v := .pointer (some ⟨gm, 4, none⟩)) rfl (by kernel_rfl) (by kernel_rfl) (by kernel_rfl) (fun _ _ _ h => h) (Or.inl ⟨by rfl, fun w _ => by go_simp⟩) hS ?_
    try simp only [Act.put, nz0, nz1, nz2, nz3, nz4, nz5]
    refine wpAnyH_take (i := 6) (v := .int .u32 m.first) rfl (by kernel_rfl) (by kernel_rfl) (by kernel_rfl) (fun _ _ _ h => h) (Or.inl ⟨by rfl, fun w h => by have c := row_at h.1 4 _ rfl; go_simp⟩) hS ?_
    try simp only [Act.put, nz0, nz1, nz2, nz3, nz4, nz5]
    refine wpAnyH_ready (rs := [2]) (by kernel_rfl) (by simp) ?_
    refine AllReadyH.cons rfl (fun K hK => ?_) AllReadyH.nil
    go_simp
    go_at_call 18
    refine Calls.mono (HFR.out _ hS.2) ?_
    rintro e w1_2 ⟨rfl, hcb⟩
    refine hK.out _ _ (⟨hS.1.below hcb hS.1.lt, hS.2.trans (hcb.mono hS.2.size)⟩) fun hS => ?_
    try simp only [Act.put, nz0, nz1, nz2, nz3, nz4, nz5]
    clear hcb
    refine wpAnyH_take (i := 7) (v := .int .u32 (sp : Int)) rfl (by kernel_rfl) (by kernel_rfl) (by kernel_rfl) (fun _ _ _ h => h) (Or.inl ⟨by rfl, fun w _ => by go_simp⟩) hS ?_
    try simp only [Act.put, nz0, nz1, nz2, nz3, nz4, nz5]
    refine wpAnyH_take (i := 8) (v := .int .i64 (sp : Int)) rfl (by kernel_rfl) (by kernel_rfl) (by kernel_rfl) (fun _ _ _ h => h) (Or.inl ⟨by rfl, fun w _ => by go_simp⟩) hS ?_
    try simp only [Act.put, nz0, nz1, nz2, nz3, nz4, nz5]
    refine wpAnyH_take (i := 9) (v := .int .i64 (sp : Int)) rfl (by kernel_rfl) (by kernel_rfl) (by kernel_rfl) (fun _ _ _ h => h) (Or.inl ⟨by rfl, fun w _ => by go_simp⟩) hS ?_
    try simp only [Act.put, nz0, nz1, nz2, nz3, nz4, nz5]
    refine wpAnyH_done (by kernel_rfl) ?_ _
    have c5 := row_at hS.1 5 _ rfl
    have g5 := row_frozen hS.1 5
    have t1 : RCut w gm pd (.slice (some ⟨g, off, none⟩) LB cap) { m with blocks := m.blocks.drop sp } (w1_2.setCell ⟨gm, 5, none⟩ (.slice ob (LB - sp) (cap - sp))) := rsetB hS.1 hS.2 HV.out hng HSUB.out
    go_upto_region 2 with fail
    rw [Hob.out]
    generalize w1_2.setCell ⟨gm, 5, none⟩ (.slice ob (LB - sp) (cap - sp)) = w5 at t1 ⊢
    clear c5 g5 hS
    obtain ⟨o6, c6, r6⟩ := t1.row
    unfold rlcells at r6
    have d4 := row_at r6 4 _ rfl
    have k4 := row_frozen r6 4
    have t2 : RCut w gm pd (.slice (some ⟨g, off, none⟩) LB cap) { m with blocks := m.blocks.drop sp, first := IntKind.u32.wrap (m.first + (sp : Nat)) } (w5.setCell ⟨gm, 4, none⟩ (.int .u32 ((m.first + (sp : Int)) % 4294967296))) := t1.set 4 _ rfl (fun v => by rw [IntKind.wrap_u32]; rfl)
    clear r6 t1
    go_upto_region 3 with fail
    clear d4 k4
    generalize w5.setCell ⟨gm, 4, none⟩ (.int .u32 ((m.first + (sp : Int)) % 4294967296)) = w6 at t2 ⊢
    obtain ⟨o7, c7, r7⟩ := t2.row
    unfold rlcells at r7
    have d6 := row_at r7 6 _ rfl
    have k6 := row_frozen r7 6
    have t3 := t2.set (m' := { m with blocks := m.blocks.drop sp, first := IntKind.u32.wrap (m.first + (sp : Nat)), lasting := m.lasting - sp }) 6 (.int .i64 (((m.lasting - sp : Nat) : Int))) rfl (fun v => rfl)
    have HK : Hid _ := HTR.out _ t3
    clear r7 t2 t3
    go_wp2
    exact bodyPost_end (results_none rfl _ _ _) rfl ⟨rfl, HK.out⟩
end Go.Proofs.Ytgnedbagelhcbaa
