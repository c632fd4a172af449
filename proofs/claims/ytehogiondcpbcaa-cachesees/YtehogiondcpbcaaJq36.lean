/-
  The laws' caches in memory: fetches, puts and writes of the laws' own.
-/
import Derived.Test.YtehogiondcpbcaaJq35
namespace Go.Proofs.Ytehogiondcpbcaa
open Go.ChangeShapes Go.WideShapes Go.ChangeAt Go.RowKit
set_option linter.unusedVariables false
set_option linter.unusedSimpArgs false
set_option maxRecDepth 20000
theorem Fetches.len {s : Cs} {l : Lg} {d : Dsk} {u : Bool} {k : Int} {p : List Int} {E : Int} {s' : Cs} {l' : Lg} {d' : Dsk} (h : Fetches s l d u k p E s' l' d') (ok : s.Ok) (ok' : s'.Ok) : p.length = 224 := by
  rcases h with ⟨h1, rfl, _⟩ | ⟨h0, i, f, h1, h2, rfl, _⟩ | ⟨h0, h1, i1, E1, s1, hl, ⟨h2, rfl, _⟩ | ⟨rfl, rfl, rfl, f, hf, rfl⟩⟩
  · exact zs_length _
  · exact (ok.fs f (List.mem_of_getElem? h2)).len
  · exact zs_length _
  · exact (ok'.fs f (List.mem_of_getElem? (show (fetchP s1 i1).fs[i1]? = some f from hf))).len
theorem Sit.step {w0 : World} {F : Nat → Prop} {gc gd gl gk ak : Nat} {s s' : Cs} {l l' : Lg} {d d' : Dsk} {k : Nat} {last last' : Bool → Int → List Int} {W w' : World} (h : Sit w0 F gc gd gl gk ak s l d k last W) (hk : k ≤ 1000) {M : Int} {N : Nat} (hst : CStep W F gc gd gl gk ak s' l' d' M N w') (hM : M ≤ k + 1) (hN : N ≤ 4004 * k + 4004) (st : St s' l' d' (k + 1) last') : ∃ F', Sit w0 F' gc gd gl gk ak s' l' d' (k + 1) last' w' ∧ Tr F W F' w' := by
  have h2 : CStep W F gc gd gl gk ak s' l' d' ((k + 1 : Nat) : Int) (4004 * (k + 1)) w' := (hst.growM (M' := ((k + 1 : Nat) : Int)) (by push_cast; omega) (by push_cast; omega)).grow (by omega) (by omega)
  obtain ⟨F', c1, c2⟩ := h.cs.step h2
  exact ⟨F', ⟨c1, st⟩, c2⟩
def FetQ (w0 : World) (F : Nat → Prop) (gc gd gl gk ak : Nat) (k : Nat) (last : Bool → Int → List Int) (u : Bool) (j : Int) (W : World) (e : Ending) (w' : World) : Prop :=
  ∃ (p : List Int) (E : Int) (F' : Nat → Prop) (s' : Cs) (l' : Lg) (d' : Dsk), e = .returned (.tuple #[.agg (bs p), .int .i64 E]) ∧ p.length = 224 ∧ Sit w0 F' gc gd gl gk ak s' l' d' (k + 1) last w' ∧ Tr F W F' w' ∧ (E = 0 → p = last u j ∧ Pg u j)
theorem Sit.fetch {w0 : World} {F : Nat → Prop} {gc gd gl gk ak : Nat} {s : Cs} {l : Lg} {d : Dsk} {k : Nat} {last : Bool → Int → List Int} {W : World} (h : Sit w0 F gc gd gl gk ak s l d k last W) (hk : k ≤ 1000) (u : Bool) {j : Int} (hj : 0 ≤ j ∧ j ≤ 65535) : Calls Try.prog 16 #[.pointer (some ⟨gc, 0, none⟩), .agg #[.bool u, .int .u16 j]] W fun e w' => FetQ w0 F gc gd gl gk ak k last u j W e w' := by
  obtain ⟨h1, h2⟩ := h.ops hk
  refine (fetch_any h.cs.2.1 u j (wfu_mk hj) h.st.pi.inv (by omega) h1 (flush_ops h.st.pi.inv d) (by omega) (by omega)).mono ?_
  rintro e w' ⟨p, E, s', l', d', hf, he, hst⟩
  obtain ⟨st', hE⟩ := h.st.fetch h.cs.2.1.ok hk hj.1 hf
  obtain ⟨F', sit, tr⟩ := h.step hk hst (by omega) (by omega) st'
  exact ⟨p, E, F', s', l', d', he, hf.len h.cs.2.1.ok sit.cs.2.1.ok, sit, tr, hE⟩
theorem Sit.append {w0 : World} {F : Nat → Prop} {gc gd gl gk ak : Nat} {s : Cs} {l : Lg} {d : Dsk} {k : Nat} {last : Bool → Int → List Int} {W : World} (h : Sit w0 F gc gd gl gk ak s l d k last W) (hk : k ≤ 1000) (t : ByteArray) (ht : t.size ≤ maxLen) : Calls Try.prog 17 #[.pointer (some ⟨gl, 0, none⟩), .string t] W fun e w' => e = .returned (.tuple #[.int .u64 (appA l t), .int .i64 (appE l t)]) ∧ ∃ F', Sit w0 F' gc gd gl gk ak s (appL l t) d (k + 1) last w' ∧ Tr F W F' w' := by
  obtain ⟨h1, h2⟩ := h.ops hk
  refine (h.cs.2.1.append h.st.pi.inv h2 t ht).mono ?_
  rintro e w' ⟨he, hst⟩
  exact ⟨he, h.step hk hst (by omega) (by omega) (h.st.append hk t)⟩
theorem Sit.put {w0 : World} {F : Nat → Prop} {gc gd gl gk ak : Nat} {s : Cs} {l : Lg} {d : Dsk} {k : Nat} {last : Bool → Int → List Int} {W : World} (h : Sit w0 F gc gd gl gk ak s l d k last W) (hk : k ≤ 1000) (u : Bool) {j : Int} (hj : 0 ≤ j ∧ j ≤ 65535) (p : List Int) (hp : p.length = 224) (hb : Bytes p) (hl : lsnP p < l.fin) : Calls Try.prog 18 #[.pointer (some ⟨gc, 0, none⟩), .agg #[.bool u, .int .u16 j], .agg (bs p)] W fun e w' => e = .returned (.int .i64 (putE s u j p)) ∧ ∃ F', Sit w0 F' gc gd gl gk ak (putS s u j p) l d (k + 1) (if putE s u j p = 0 then lastP last u j p else last) w' ∧ Tr F W F' w' := by
  refine (cput_any h.cs.2.1 u j (wfu_mk hj) p hp hb).mono ?_
  rintro e w' ⟨he, hst⟩
  exact ⟨he, h.step hk hst (by omega) (by omega) ((h.st.put h.cs.2.1.ok hl).mono (by omega))⟩
end Go.Proofs.Ytehogiondcpbcaa
