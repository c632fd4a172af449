/-
  Proved here: log.seal: the first bytes of the open part become a block.
-/
import Derived.Test.YtehogiondcpbcaaJq10
import Derived.Test.YtehogiondcpbcaaJq06
namespace Go.Proofs.Ytehogiondcpbcaa
open Go.ChangeShapes Go.WideShapes Go.ChangeAt Go.RowKit
set_option linter.unusedVariables false
set_option linter.unusedSimpArgs false
set_option maxRecDepth 20000
theorem built65L (e n o : Int) (t : ByteArray) : Try.prog.built 164 [(0, .int .u32 e), (1, .int .u32 n), (2, .int .u64 o), (3, .string t)] = some #[.int .u32 e, .int .u32 n, .int .u64 o, .string t] := by kernel_rfl
theorem yields_buildL {P : Program} {ops : Array Oper} {S : World → Prop} {o : Oper} {a : Act} (hw : Region.wanted o (yielded ops a.tmps) = true) (t : TypeId) (parts : Array (Nat × Operand)) (ho : o.op = .build t parts)
    (vs : List (Nat × Value)) (hv : parts.toList.map (fun x => (x.1, a.eval x.2)) = vs) (cs : Array Value) (hb : P.built t vs = some cs) : YieldsIf P ops S o (.agg cs) a := by
  refine Or.inl ⟨hw, fun w hS => ?_⟩
  have e : (parts.map fun (i, x) => (i, a.eval x)).toList = vs := by rw [← hv, Array.toList_map]
  unfold execOp
  simp only [ho, Sem.run_bind, run_build w t _ cs (by rw [e]; exact hb), Result.andThen_ok, Sem.run_pure]
theorem step_ofL {o : Oper} {ops : Array Oper} {a : Act} {w : World} {K : Act → World → Prop} {Q : Exit → Act → World → Prop} {E : Prop} (hgd : o.guard = none) (h : Oper.wp Try.prog o a w K Q) : if Region.wanted o (yielded ops a.tmps) = true then Oper.wp Try.prog o a w K Q else E := by
  rw [if_pos (by simp [Region.wanted, hgd])]; exact h
theorem Ck.Own.snocQ {w : World} {base : Nat} {v : Value} {os : List Ck.O} (h : Ck.Own w base v os) (ty : TypeId) (X : Nat) (p : Ck.O) (hX : Row w X p.arr 164) (hb : base ≤ w.heap.size) (hn : os.length ≤ 1000) :
    ∃ v' w', (Builtin.append_ #[97, 97] ty #[v, .slice (some ⟨X, 0, none⟩) 1 1]).run Try.prog w = .ok v' w' ∧ (Ck.Own w' base v' (os ++ [p]) ∧ w.grownBy w' v.ownBlock ∧ (v'.ownBlock = v.ownBlock ∨ v'.ownBlock = some w.heap.size)) := by
  obtain ⟨i, hi, hz, hs, hby⟩ := Ck.info_parts Ck.info164
  obtain ⟨v', w', hr, h2, h3, h4, h5⟩ := run_append_own_at (P := Try.prog) w base 97 ty 164 i _ 4 32 Try.underlying97 hi hz hs hby rfl (by decide) v os.length (Ck.flat os) h ⟨X, 0, none⟩ 1 1 p.cells rfl (fun j u hj => by rw [Addr.add_mid, Nat.zero_add, cell_of_row w X j _ _ _ hX, ← hj]; show p.cells.toArray[j]? = _; rw [List.getElem?_toArray]) (fun u hu => Ck.flat_one [p] u (by simpa [Ck.flat] using hu)) (by unfold maxLen; omega) (by omega) hb
  refine ⟨v', w', hr, ?_, h3, h5⟩
  unfold Ck.Own
  rw [Ck.flat_append, List.length_append]
  exact h2
def Lg.seal (l : Lg) (n : Nat) : Lg := { l with sealed := l.sealed ++ [⟨l.ep, l.next, l.fin - l.open_.size, l.open_.extract 0 n⟩], open_ := l.open_.extract n l.open_.size, next := IntKind.u32.wrap (l.next + 1) }
def Sealed (w : World) (gl : Nat) (pd vl vs : Value) (l : Lg) (n : Nat) (w' : World) : Prop :=
  ∃ vs', Row w' gl (lcells pd vl vs' (l.seal n)) 99 ∧ Ck.Own w' (gl + 1) vs' (l.seal n).sealed ∧ Off (fun j => j = gl ∨ vs.ownBlock = some j) w w' ∧ (∀ j, vs'.ownBlock = some j → vs.ownBlock = some j ∨ w.heap.size ≤ j)
set_option maxHeartbeats 4000000 in
theorem seal_any (w : World) (gl : Nat) (pd vl vs : Value) (l : Lg) (N : Nat) (hr : Row w gl (lcells pd vl vs l) 99) (ho : Ck.Own w (gl + 1) vs l.sealed) (hN : N ≤ l.open_.size) (hs : l.sealed.length ≤ 900) (hf : (l.open_.size : Int) ≤ l.fin ∧ l.fin ≤ 18446744073709551615) (hx : 0 ≤ l.next ∧ l.next ≤ 4294967295) (hsz : l.open_.size ≤ 1000000000) :
    Calls Try.prog 52 #[.pointer (some ⟨gl, 0, none⟩), .int .i64 N] w fun e w' => e = .returned (.tuple #[]) ∧ Sealed w gl pd vl vs l N w' := by
  obtain ⟨PP, HPP⟩ : ∃ PP : World → Prop, Hid (PP = fun w' => Sealed w gl pd vl vs l N w') := ⟨_, rfl⟩
  have e0 : (fun e w' => e = Ending.returned (.tuple #[]) ∧ Sealed w gl pd vl vs l N w') = (fun e w' => e = Ending.returned (.tuple #[]) ∧ PP w') := by rw [HPP.out]
  rw [e0]
  clear e0
  obtain ⟨ob, cb, hv⟩ := ho.form
  obtain ⟨a, z, ep, la, sl, op, nx, fr, fi, du⟩ := l
  subst hv
  simp only at hN hs hf hx hsz
  unfold lcells at hr
  simp only at hr
  obtain ⟨M, HM⟩ : ∃ M, Hid (sl.length = M) := ⟨_, rfl⟩
  have hM : M ≤ 900 := by rw [← HM.out]; exact hs
  have ho : Ck.Own w (gl + 1) (.slice ob sl.length cb) sl := ho
  rw [HM.out] at hr ho HPP
  have w1 : IntKind.u64.wrap (op.size : Int) = op.size := by rw [IntKind.wrap_u64]; omega
  have w2 : IntKind.u64.wrap (fi - op.size) = fi - op.size := by rw [IntKind.wrap_u64]; omega
  have hN' : (N : Int) ≤ op.size := by omega
  have HLT : Hid (∀ b, (Value.slice ob M cb).ownBlock = some b → gl + 1 ≤ b ∧ b < w.heap.size) := fun b hb => World.ownsRow.lt ho b hb
  go_enter Try.func52, Try.ntmps52
  go_upto_region 0 with fail
  refine wp_region_held_drew (S := fun w' => Row w' gl #[pd, .int .i64 a, .int .i64 z, .int .u32 ep, vl, .slice ob M cb, .string op, .int .u32 nx, .bool fr, .int .u64 fi, .int .u64 du] 99 ∧ Below w.heap.size w w') (by kernel_rfl) ⟨hr, (Below.refl w.heap.size w).drew⟩ fun hS => ?_
  clear hr
  refine tkI (i := 0) (v := .pointer (some ⟨gl, 0, none⟩)) rfl (Or.inl ⟨by rfl, fun w _ => by go_simp⟩) hS ?_
  try simp only [Act.put, nz]
  refine tkI (i := 1) (v := .pointer (some ⟨gl, 0, none⟩)) rfl (Or.inl ⟨by rfl, fun w _ => by go_simp⟩) hS ?_
  try simp only [Act.put, nz]
  refine tkI (i := 2) (v := .pointer (some ⟨gl, 9, none⟩)) rfl (Or.inl ⟨by rfl, fun w _ => by go_simp⟩) hS ?_
  try simp only [Act.put, nz]
  refine tkI (i := 3) (v := .int .u64 fi) rfl (Or.inl ⟨by rfl, fun w h => by have c := row_at h.1 9 _ rfl; go_simp⟩) hS ?_
  try simp only [Act.put, nz]
  refine tkI (i := 4) (v := .pointer (some ⟨gl, 0, none⟩)) rfl (Or.inl ⟨by rfl, fun w _ => by go_simp⟩) hS ?_
  try simp only [Act.put, nz]
  refine tkI (i := 5) (v := .pointer (some ⟨gl, 0, none⟩)) rfl (Or.inl ⟨by rfl, fun w _ => by go_simp⟩) hS ?_
  try simp only [Act.put, nz]
  refine tkI (i := 6) (v := .pointer (some ⟨gl, 6, none⟩)) rfl (Or.inl ⟨by rfl, fun w _ => by go_simp⟩) hS ?_
  try simp only [Act.put, nz]
  refine tkI (i := 7) (v := .string op) rfl (Or.inl ⟨by rfl, fun w h => by have c := row_at h.1 6 _ rfl; go_simp⟩) hS ?_
  try simp only [Act.put, nz]
  refine tkI (i := 8) (v := .int .i64 op.size) rfl (Or.inl ⟨by rfl, fun w _ => by go_simp⟩) hS ?_
  try simp only [Act.put, nz]
  refine tkI (i := 9) (v := .int .u64 op.size) rfl (Or.inl ⟨by rfl, fun w _ => by go_simp⟩) hS ?_
  try simp only [Act.put, nz]
  refine tkI (i := 10) (v := .int .u64 (fi - op.size)) rfl (Or.inl ⟨by rfl, fun w _ => by go_simp⟩) hS ?_
  try simp only [Act.put, nz]
  refine tkI (i := 11) (v := .int .u64 (fi - op.size)) rfl (Or.inl ⟨by rfl, fun w _ => by go_simp⟩) hS ?_
  try simp only [Act.put, nz]
  refine wpAnyH_done (by kernel_rfl) ?_ _
  generalize w.drew = w1 at hS ⊢
  obtain ⟨R1, O0⟩ := hS
  have own0 : Ck.Own w1 (gl + 1) (.slice ob M cb) sl := ho.keep O0
  have O1 : Off (fun j => j = gl ∨ (Value.slice ob M cb).ownBlock = some j) w w1 := Off.of_below O0
  go_upto_region 1 with fail
  refine wp_region_last (S := fun w' => Row w' gl #[pd, .int .i64 a, .int .i64 z, .int .u32 ep, vl, .slice ob M cb, .string op, .int .u32 nx, .bool fr, .int .u64 fi, .int .u64 du] 99 ∧ Off (fun j => j = gl ∨ (Value.slice ob M cb).ownBlock = some j) w w') 25 (by kernel_rfl) ⟨R1, O1.drew⟩ fun hS => ?_
  refine wpAnyL_take (i := 0) (v := .pointer (some ⟨gl, 0, none⟩)) rfl (by kernel_rfl) (by kernel_rfl) (by kernel_rfl) (by kernel_rfl) (fun _ _ _ h => h) (Or.inl ⟨by rfl, fun w _ => by rfl⟩) hS ?_
  try simp only [Act.put, nz]
  refine wpAnyL_take (i := 1) (v := .pointer (some ⟨gl, 0, none⟩)) rfl (by kernel_rfl) (by kernel_rfl) (by kernel_rfl) (by kernel_rfl) (fun _ _ _ h => h) (Or.inl ⟨by rfl, fun w _ => by rfl⟩) hS ?_
  try simp only [Act.put, nz]
  refine wpAnyL_take (i := 2) (v := .pointer (some ⟨gl, 0, none⟩)) rfl (by kernel_rfl) (by kernel_rfl) (by kernel_rfl) (by kernel_rfl) (fun _ _ _ h => h) (Or.inl ⟨by rfl, fun w _ => by go_simp⟩) hS ?_
  try simp only [Act.put, nz]
  refine wpAnyL_take (i := 3) (v := .pointer (some ⟨gl, 5, none⟩)) rfl (by kernel_rfl) (by kernel_rfl) (by kernel_rfl) (by kernel_rfl) (fun _ _ _ h => h) (Or.inl ⟨by rfl, fun w _ => by go_simp⟩) hS ?_
  try simp only [Act.put, nz]
  refine wpAnyL_take (i := 4) (v := .slice ob M cb) rfl (by kernel_rfl) (by kernel_rfl) (by kernel_rfl) (by kernel_rfl) (fun _ _ _ h => h) (Or.inl ⟨by rfl, fun w h => by have c := row_at h.1 5 _ rfl; go_simp⟩) hS ?_
  try simp only [Act.put, nz]
  refine wpAnyL_take (i := 5) (v := .pointer (some ⟨gl, 0, none⟩)) rfl (by kernel_rfl) (by kernel_rfl) (by kernel_rfl) (by kernel_rfl) (fun _ _ _ h => h) (Or.inl ⟨by rfl, fun w _ => by rfl⟩) hS ?_
  try simp only [Act.put, nz]
  refine wpAnyL_take (i := 6) (v := .pointer (some ⟨gl, 0, none⟩)) rfl (by kernel_rfl) (by kernel_rfl) (by kernel_rfl) (by kernel_rfl) (fun _ _ _ h => h) (Or.inl ⟨by rfl, fun w _ => by go_simp⟩) hS ?_
  try simp only [Act.put, nz]
  refine wpAnyL_take (i := 7) (v := .pointer (some ⟨gl, 3, none⟩)) rfl (by kernel_rfl) (by kernel_rfl) (by kernel_rfl) (by kernel_rfl) (fun _ _ _ h => h) (Or.inl ⟨by rfl, fun w _ => by go_simp⟩) hS ?_
  try simp only [Act.put, nz]
  refine wpAnyL_take (i := 8) (v := .int .u32 ep) rfl (by kernel_rfl) (by kernel_rfl) (by kernel_rfl) (by kernel_rfl) (fun _ _ _ h => h) (Or.inl ⟨by rfl, fun w h => by have c := row_at h.1 3 _ rfl; go_simp⟩) hS ?_
  try simp only [Act.put, nz]
  refine wpAnyL_take (i := 9) (v := .pointer (some ⟨gl, 0, none⟩)) rfl (by kernel_rfl) (by kernel_rfl) (by kernel_rfl) (by kernel_rfl) (fun _ _ _ h => h) (Or.inl ⟨by rfl, fun w _ => by rfl⟩) hS ?_
  try simp only [Act.put, nz]
  refine wpAnyL_take (i := 10) (v := .pointer (some ⟨gl, 0, none⟩)) rfl (by kernel_rfl) (by kernel_rfl) (by kernel_rfl) (by kernel_rfl) (fun _ _ _ h => h) (Or.inl ⟨by rfl, fun w _ => by go_simp⟩) hS ?_
  try simp only [Act.put, nz]
  refine wpAnyL_take (i := 11) (v := .pointer (some ⟨gl, 7, none⟩)) rfl (by kernel_rfl) (by kernel_rfl) (by kernel_rfl) (by kernel_rfl) (fun _ _ _ h => h) (Or.inl ⟨by rfl, fun w _ => by go_simp⟩) hS ?_
  try simp only [Act.put, nz]
  refine wpAnyL_take (i := 12) (v := .int .u32 nx) rfl (by kernel_rfl) (by kernel_rfl) (by kernel_rfl) (by kernel_rfl) (fun _ _ _ h => h) (Or.inl ⟨by rfl, fun w h => by have c := row_at h.1 7 _ rfl; go_simp⟩) hS ?_
  try simp only [Act.put, nz]
  refine wpAnyL_take (i := 13) (v := .int .u64 (fi - op.size)) rfl (by kernel_rfl) (by kernel_rfl) (by kernel_rfl) (by kernel_rfl) (fun _ _ _ h => h) (Or.inl ⟨by rfl, fun w _ => by rfl⟩) hS ?_
  try simp only [Act.put, nz]
  refine wpAnyL_take (i := 14) (v := .pointer (some ⟨gl, 0, none⟩)) rfl (by kernel_rfl) (by kernel_rfl) (by kernel_rfl) (by kernel_rfl) (fun _ _ _ h => h) (Or.inl ⟨by rfl, fun w _ => by rfl⟩) hS ?_
  try simp only [Act.put, nz]
  refine wpAnyL_take (i := 15) (v := .pointer (some ⟨gl, 0, none⟩)) rfl (by kernel_rfl) (by kernel_rfl) (by kernel_rfl) (by kernel_rfl) (fun _ _ _ h => h) (Or.inl ⟨by rfl, fun w _ => by go_simp⟩) hS ?_
  try simp only [Act.put, nz]
  refine wpAnyL_take (i := 16) (v := .pointer (some ⟨gl, 6, none⟩)) rfl (by kernel_rfl) (by kernel_rfl) (by kernel_rfl) (by kernel_rfl) (fun _ _ _ h => h) (Or.inl ⟨by rfl, fun w _ => by go_simp⟩) hS ?_
  try simp only [Act.put, nz]
  refine wpAnyL_take (i := 17) (v := .string op) rfl (by kernel_rfl) (by kernel_rfl) (by kernel_rfl) (by kernel_rfl) (fun _ _ _ h => h) (Or.inl ⟨by rfl, fun w h => by have c := row_at h.1 6 _ rfl; go_simp⟩) hS ?_
  try simp only [Act.put, nz]
  refine wpAnyL_take (i := 18) (v := .int .i64 N) rfl (by kernel_rfl) (by kernel_rfl) (by kernel_rfl) (by kernel_rfl) (fun _ _ _ h => h) (Or.inl ⟨by rfl, fun w _ => by rfl⟩) hS ?_
  try simp only [Act.put, nz]
  refine wpAnyL_take (i := 19) (v := .string (op.extract 0 N)) rfl (by kernel_rfl) (by kernel_rfl) (by kernel_rfl) (by kernel_rfl) (fun _ _ _ h => h) (Or.inl ⟨by rfl, fun w _ => by go_simp⟩) hS ?_
  try simp only [Act.put, nz]
  refine wpAnyL_take (i := 20) (v := .agg #[.int .u32 ep, .int .u32 nx, .int .u64 (fi - op.size), .string (op.extract 0 N)]) rfl (by kernel_rfl) (by kernel_rfl) (by kernel_rfl) (by kernel_rfl) (fun _ _ _ h => h) (yields_buildL (by rfl) 164 #[(0, .tmp 24), (1, .tmp 28), (2, .tmp 29), (3, .tmp 35)] rfl [(0, .int .u32 ep), (1, .int .u32 nx), (2, .int .u64 (fi - op.size)), (3, .string (op.extract 0 N))] (by rfl) _ (built65L ep nx (fi - op.size) (op.extract 0 N))) hS ?_
  try simp only [Act.put, nz]
  have own1 : Ck.Own w1.drew (gl + 1) (.slice ob M cb) sl := own0
  clear own0 R1 O1 O0
  generalize w1.drew = W0 at hS own1 ⊢
  refine wpAnyL_ready (rs := [21]) (by kernel_rfl) (by simp) ?_
  refine AllReadyL.cons rfl (fun K hK => ?_) AllReadyL.nil
  have ab : Below W0.heap.size W0 (W0.alloc (.cells #[.int .u32 ep, .int .u32 nx, .int .u64 (fi - op.size), .string (op.extract 0 N)] 164)) := (Below.refl _ _).alloc (Nat.le_refl _) _
  have rX : Row (W0.alloc (.cells #[.int .u32 ep, .int .u32 nx, .int .u64 (fi - op.size), .string (op.extract 0 N)] 164)) W0.heap.size (Ck.O.arr ⟨ep, nx, fi - op.size, op.extract 0 N⟩) 164 := Row.new _ _ _
  have own2 := own1.keep ab
  have hS2 : Row (W0.alloc (.cells #[.int .u32 ep, .int .u32 nx, .int .u64 (fi - op.size), .string (op.extract 0 N)] 164)) gl #[pd, .int .i64 a, .int .i64 z, .int .u32 ep, vl, .slice ob M cb, .string op, .int .u32 nx, .bool fr, .int .u64 fi, .int .u64 du] 99 ∧ Off (fun j => j = gl ∨ (Value.slice ob M cb).ownBlock = some j) w (W0.alloc (.cells #[.int .u32 ep, .int .u32 nx, .int .u64 (fi - op.size), .string (op.extract 0 N)] 164)) := ⟨hS.1.alloc _, hS.2.trans (Off.of_below (F := fun _ => False) ab) (fun _ q => q.elim)⟩
  have hrW : gl + 1 ≤ W0.heap.size := hS.1.lt
  have hab := ab.size
  have HWX : Hid (w.heap.size ≤ W0.heap.size) := hS.2.size
  go_simp
  refine hK.out _ _ (fun _ => hS2) ?_
  try simp only [Act.put, nz]
  clear hS ab own1
  generalize W0.alloc (.cells #[.int .u32 ep, .int .u32 nx, .int .u64 (fi - op.size), .string (op.extract 0 N)] 164) = W1 at rX hS2 hab own2 ⊢
  generalize W0.heap.size = X at rX hab hrW HWX ⊢
  have hS := hS2
  clear hS2
  have HR : Hid (∀ ty, ∃ v' w', (Builtin.append_ #[97, 97] ty #[.slice ob M cb, .slice (some ⟨X, 0, none⟩) 1 1]).run Try.prog W1 = .ok v' w' ∧ (Ck.Own w' (gl + 1) v' (sl ++ [⟨ep, nx, fi - op.size, op.extract 0 N⟩]) ∧ W1.grownBy w' (Value.slice ob M cb).ownBlock ∧ (v'.ownBlock = (Value.slice ob M cb).ownBlock ∨ v'.ownBlock = some W1.heap.size))) := fun ty => Ck.Own.snocQ own2 ty X ⟨ep, nx, fi - op.size, op.extract 0 N⟩ rX (by omega) (by rw [HM.out]; omega)
  refine wpAnyL_ready (rs := [22]) (by kernel_rfl) (by simp) ?_
  refine AllReadyL.cons rfl (fun K hK => step_ofL rfl (Ck.wp_copy (.tmp 20) (.tmp 37) 97 rfl _ _ rfl rfl (fun ty => HR.out ty) ?_)) AllReadyL.nil
  rintro v15 w15 ⟨own15, gr15, hv15⟩
  have o15 : Off (fun j => (Value.slice ob M cb).ownBlock = some j) W1 w15 := Off.of_grown gr15 (fun k hk => hk)
  have R15 : Row w15 gl #[pd, .int .i64 a, .int .i64 z, .int .u32 ep, vl, .slice ob M cb, .string op, .int .u32 nx, .bool fr, .int .u64 fi, .int .u64 du] 99 := hS.1.off o15 (fun q => by have := HLT.out gl q; omega)
  have O15 : Off (fun j => j = gl ∨ (Value.slice ob M cb).ownBlock = some j) w w15 := hS.2.trans o15 (fun j q => Or.inl (Or.inr q))
  have HNB : Hid (∀ j, v15.ownBlock = some j → (Value.slice ob M cb).ownBlock = some j ∨ w.heap.size ≤ j) := fun j hj => by
    rcases hv15 with q | q
    · rw [q] at hj; exact Or.inl hj
    · rw [q] at hj; cases hj; have := HWX.out; exact Or.inr (by omega)
  obtain ⟨oc, cc, hf15⟩ := own15.form
  have hlen : (sl ++ [⟨ep, nx, fi - op.size, op.extract 0 N⟩] : List Ck.O).length = M + 1 := by rw [List.length_append, HM.out]; rfl
  rw [hlen] at hf15
  subst hf15
  have hS15 : Row w15 gl #[pd, .int .i64 a, .int .i64 z, .int .u32 ep, vl, .slice ob M cb, .string op, .int .u32 nx, .bool fr, .int .u64 fi, .int .u64 du] 99 ∧ Off (fun j => j = gl ∨ (Value.slice ob M cb).ownBlock = some j) w w15 := ⟨R15, O15⟩
  refine hK.out _ _ (fun _ => hS15) ?_
  try simp only [Act.put, nz]
  clear hS HR own2 gr15 o15 R15 O15 rX hv15
  have hS := hS15
  clear hS15
  refine wpAnyL_ready (rs := [23]) (by kernel_rfl) (by simp) ?_
  refine AllReadyL.cons rfl (fun K hK => ?_) AllReadyL.nil
  go_simp
  refine hK.out _ _ (fun _ => hS) ?_
  try simp only [Act.put, nz]
  refine wpAnyL_ready (rs := [24]) (by kernel_rfl) (by simp) ?_
  refine AllReadyL.cons rfl (fun K hK => ?_) AllReadyL.nil
  go_simp
  refine hK.out _ _ (fun _ => hS) ?_
  try simp only [Act.put, nz]
  refine wpAnyL_ready (rs := [25]) (by kernel_rfl) (by simp) ?_
  refine AllReadyL.cons rfl (fun K hK => ?_) AllReadyL.nil
  have c9 := row_at hS.1 5 _ rfl
  have f9 := row_frozen hS.1 5
  have RR : Row (w15.setCell ⟨gl, 5, none⟩ (.slice oc (M + 1) cc)) gl #[pd, .int .i64 a, .int .i64 z, .int .u32 ep, vl, .slice oc (M + 1) cc, .string op, .int .u32 nx, .bool fr, .int .u64 fi, .int .u64 du] 99 := row_set hS.1 5 _
  have own9 : Ck.Own (w15.setCell ⟨gl, 5, none⟩ (.slice oc (M + 1) cc)) (gl + 1) (.slice oc (M + 1) cc) (sl ++ [⟨ep, nx, fi - op.size, op.extract 0 N⟩]) := own15.other gl 5 _ (by omega)
  have O9 := hS.2.trans (Off.of_setCell (F := (· = gl)) w15 ⟨gl, 5, none⟩ (.slice oc (M + 1) cc) rfl) (fun j q => Or.inl (Or.inl q))
  go_simp
  refine hK.out _ _ (fun q => absurd rfl q) ?_
  try simp only [Act.put, nz]
  generalize w15.setCell ⟨gl, 5, none⟩ (.slice oc (M + 1) cc) = w16 at RR own9 O9 ⊢
  refine wpAnyL_done (by kernel_rfl) ?_ _
  clear hS c9 f9 own15 hlen
  have d6 := row_at RR 6 _ rfl
  have d7 := row_at RR 7 _ rfl
  have g6 := row_frozen RR 6
  have R17 : Row (w16.setCell ⟨gl, 6, none⟩ (.string (op.extract N op.size))) gl #[pd, .int .i64 a, .int .i64 z, .int .u32 ep, vl, .slice oc (M + 1) cc, .string (op.extract N op.size), .int .u32 nx, .bool fr, .int .u64 fi, .int .u64 du] 99 := row_set RR 6 _
  have own17 : Ck.Own (w16.setCell ⟨gl, 6, none⟩ (.string (op.extract N op.size))) (gl + 1) (.slice oc (M + 1) cc) (sl ++ [⟨ep, nx, fi - op.size, op.extract 0 N⟩]) := own9.other gl 6 _ (by omega)
  have O17 := O9.trans (Off.of_setCell (F := (· = gl)) w16 ⟨gl, 6, none⟩ (.string (op.extract N op.size)) rfl) (fun j q => Or.inl (Or.inl q))
  go_upto_region 3 with fail
  generalize w16.setCell ⟨gl, 6, none⟩ (.string (op.extract N op.size)) = w17 at R17 own17 O17 ⊢
  clear RR own9 O9 d6 d7 g6
  have d7 := row_at R17 7 _ rfl
  have g7 := row_frozen R17 7
  have R18 : Row (w17.setCell ⟨gl, 7, none⟩ (.int .u32 (IntKind.u32.wrap (nx + 1)))) gl #[pd, .int .i64 a, .int .i64 z, .int .u32 ep, vl, .slice oc (M + 1) cc, .string (op.extract N op.size), .int .u32 (IntKind.u32.wrap (nx + 1)), .bool fr, .int .u64 fi, .int .u64 du] 99 := row_set R17 7 _
  have own18 : Ck.Own (w17.setCell ⟨gl, 7, none⟩ (.int .u32 (IntKind.u32.wrap (nx + 1)))) (gl + 1) (.slice oc (M + 1) cc) (sl ++ [⟨ep, nx, fi - op.size, op.extract 0 N⟩]) := own17.other gl 7 _ (by omega)
  have O18 := O17.trans (Off.of_setCell (F := (· = gl)) w17 ⟨gl, 7, none⟩ (.int .u32 (IntKind.u32.wrap (nx + 1))) rfl) (fun j q => Or.inl (Or.inl q))
  have HK : Hid (PP (w17.setCell ⟨gl, 7, none⟩ (.int .u32 (IntKind.u32.wrap (nx + 1))))) := by show PP _; rw [HPP.out]; exact ⟨_, R18, own18, O18, HNB.out⟩
  clear R18 own18 O18
  go_wp2
  exact bodyPost_end (results_none rfl _ _ _) rfl ⟨rfl, HK.out⟩
end Go.Proofs.Ytehogiondcpbcaa
