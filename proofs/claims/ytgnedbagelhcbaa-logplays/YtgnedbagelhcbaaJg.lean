/-
  Plain facts: a log and all its chunks; a flush that may fail. Plain facts: what stays true of a log, its texts and its disk, whatever flushes fail; what is opened behind a crash. Plain facts on the statements' arguments: blocks as values that came in. Lists of texts that came in, and what a law of texts one behind the other wants of them. A list of texts in own memory beside a log and its disk; Plan and Crash of the log's disk; lists of numbers that came in.
-/
import Derived.Test.YtgnedbagelhcbaaLod
import Derived.Test.YtgnedbagelhcbaaLrd
import Derived.Test.YtgnedbagelhcbaaLgaw
import Derived.SizedLaws
import Derived.Deep.Grids
import Derived.Deep.Slices
import Derived.Lib.SmallJoins
import Derived.Carry
import Derived.Test.YtgnedbagelhcbaaWh
import Derived.Deep.Strs
namespace Go.Proofs.Ytgnedbagelhcbaa
open Go.ChangeShapes Go.WideShapes Go.ChangeAt Go.RowKit
set_option linter.unusedVariables false
set_option linter.unusedSimpArgs false
set_option maxRecDepth 20000
theorem nums_app (a b : ByteArray) : nums (a ++ b) = nums a ++ nums b := by
  have hb : Bytes (nums a ++ nums b) := (nums_bytes a).append (nums_bytes b)
  have e : a ++ b = strOfNums (nums a ++ nums b) := by rw [strOfNums_append, tx_nums, tx_nums]
  unfold nums
  show ((a ++ b).data.toList.map _) = _
  simp [ByteArray.data_append]
theorem nums_split (o : ByteArray) (k : Nat) (h : k ≤ o.size) : nums (o.extract 0 k) ++ nums (o.extract k o.size) = nums o := by rw [← nums_app, ex_join o k h]
structure AInv (l : Lg) (all : List Ck.O) (S : List Int) : Prop where
  seq : Seq 1 0 1 all
  ep : l.ep = 1
  cat : catC all ++ nums l.open_ = S
  next : l.next = all.length
  fin : l.fin = 1 + S.length
  sld : l.sealed = all.drop l.last.length
  le : l.last.length ≤ all.length
theorem AInv.seal {l : Lg} {all : List Ck.O} {S : List Int} (h : AInv l all S) (N : Nat) (hN : 1 ≤ N ∧ N ≤ 214) (ho : N ≤ l.open_.size) (ha : all.length ≤ 1000) (hS : S.length ≤ 1000000) :
    AInv (l.seal N) (all ++ [⟨l.ep, l.next, l.fin - l.open_.size, l.open_.extract 0 N⟩]) S := by
  have hSl : S.length = (catC all).length + l.open_.size := by rw [← h.cat, List.length_append, nums_length]
  have hoff : l.fin - l.open_.size = 1 + ((catC all).length : Int) := by rw [h.fin, hSl]; push_cast; omega
  have hsz : (l.open_.extract 0 N).size = N := by rw [ByteArray.size_extract]; omega
  refine ⟨Seq.append h.seq ⟨h.ep, by show l.next = _; rw [h.next]; omega, hoff, ⟨by show 0 ≤ l.ep ∧ l.ep ≤ _; rw [h.ep]; exact one_in, by show 0 ≤ l.next ∧ l.next ≤ _; rw [h.next]; omega, by show 0 ≤ l.fin - l.open_.size ∧ l.fin - l.open_.size ≤ _; rw [hoff]; omega, by show okC (l.open_.extract 0 N) = true; unfold okC; rw [hsz]; exact decide_eq_true hN⟩, trivial⟩, h.ep, ?_, ?_, h.fin, ?_, ?_⟩
  · show catC (all ++ _) ++ nums (l.open_.extract N l.open_.size) = S
    rw [catC_append]
    show catC all ++ (nums (l.open_.extract 0 N) ++ []) ++ nums (l.open_.extract N l.open_.size) = S
    rw [List.append_nil, List.append_assoc, nums_split _ _ ho]; exact h.cat
  · show IntKind.u32.wrap (l.next + 1) = _
    rw [h.next, wrap_id _ (by omega), List.length_append]; simp
  · show l.sealed ++ _ = (all ++ _).drop l.last.length
    rw [h.sld, List.drop_append_of_le_length h.le]
  · show l.last.length ≤ (all ++ _).length
    rw [List.length_append]; have := h.le; omega
theorem AInv.more {l : Lg} {all : List Ck.O} {S : List Int} (h : AInv l all S) (F : ByteArray) : AInv (l.more F) all (S ++ nums F) := by
  refine ⟨h.seq, h.ep, ?_, h.next, ?_, h.sld, h.le⟩
  · show catC all ++ nums (l.open_ ++ F) = _
    rw [nums_app, ← List.append_assoc, h.cat]
  · show l.fin + F.size = 1 + (((S ++ nums F).length : Nat) : Int)
    rw [List.length_append, nums_length, h.fin]; push_cast; omega
theorem AInv.sealN {l : Lg} {all : List Ck.O} {S : List Int} (h : AInv l all S) (hS : S.length ≤ 1000000) : ∀ k, k * 214 ≤ l.open_.size → all.length + k ≤ 1000 → ∃ new, AInv (l.sealN k) (all ++ new) S ∧ new.length = k
  | 0, _, _ => ⟨[], by rw [List.append_nil]; exact h, rfl⟩
  | k + 1, hk, ha => by
    obtain ⟨new, h1, h2⟩ := h.sealN hS k (by omega) (by omega)
    have e1 := sealN_open l k (by omega)
    have h3 := h1.seal 214 (by omega) (by omega) (by rw [List.length_append]; omega) hS
    rw [List.append_assoc] at h3
    exact ⟨_, h3, by rw [List.length_append, h2]; rfl⟩
theorem AInv.app {l : Lg} {all : List Ck.O} {S : List Int} (h : AInv l all S) (F : ByteArray) (hS : S.length + F.size ≤ 1000000) (ha : all.length + (l.open_.size + F.size) / 214 ≤ 1000) : ∃ new, AInv (l.app F) (all ++ new) (S ++ nums F) ∧ new.length = (l.open_.size + F.size) / 214 := by
  have hsz : (l.open_ ++ F).size = l.open_.size + F.size := ByteArray.size_append
  unfold Lg.app
  rw [hsz]
  refine (h.more F).sealN (by rw [List.length_append, nums_length]; exact hS) _ ?_ ha
  show _ ≤ (l.open_ ++ F).size
  rw [hsz]; omega
theorem AInv.closed {l : Lg} {all : List Ck.O} {S : List Int} (h : AInv l all S) (ho : l.open_.size < 214) (ha : all.length ≤ 1000) (hS : S.length ≤ 1000000) : ∃ new, AInv l.closed (all ++ new) S ∧ l.closed.open_.size = 0 := by
  unfold Lg.closed
  split
  · rename_i h0
    exact ⟨[], by rw [List.append_nil]; exact h, h0⟩
  · exact ⟨_, h.seal l.open_.size (by omega) (Nat.le_refl _) ha hS, by show (l.open_.extract l.open_.size l.open_.size).size = 0; rw [ByteArray.size_extract]; omega⟩
theorem AInv.fresh {l : Lg} {all : List Ck.O} {S : List Int} (h : AInv l all S) (b : Bool) : AInv { l with fresh := b } all S := ⟨h.seq, h.ep, h.cat, h.next, h.fin, h.sld, h.le⟩
theorem AInv.flushed {l : Lg} {all : List Ck.O} {S : List Int} (h : AInv l all S) : AInv l.flushed all S ∧ l.flushed.last.length = all.length := by
  have hl : (l.last ++ l.sealed.map (·.off)).length = all.length := by
    rw [List.length_append, List.length_map, h.sld, List.length_drop]; have := h.le; omega
  exact ⟨⟨h.seq, h.ep, h.cat, h.next, h.fin, by show [] = all.drop (l.last ++ l.sealed.map (·.off)).length; rw [hl, List.drop_length], by show (l.last ++ l.sealed.map (·.off)).length ≤ _; rw [hl]; exact Nat.le_refl _⟩, hl⟩
theorem Seq.drop {e : Int} : ∀ {cs : List Ck.O} {n o : Int} (k : Nat), Seq e n o cs → k ≤ cs.length → ∃ o2, Seq e (n + k) o2 (cs.drop k)
  | cs, n, o, 0, h, _ => ⟨o, by rw [show n + ((0 : Nat) : Int) = n by omega]; exact h⟩
  | [], n, o, k + 1, _, hk => by simp at hk
  | c :: cs, n, o, k + 1, h, hk => by
    obtain ⟨o2, h2⟩ := Seq.drop k h.2.2.2.2 (by simpa using hk)
    exact ⟨o2, by rw [show n + ((k + 1 : Nat) : Int) = n + 1 + k by omega]; exact h2⟩
theorem Seq.at_num {e : Int} {cs : List Ck.O} {n o : Int} (h : Seq e n o cs) {k : Nat} {c : Ck.O} (hc : cs[k]? = some c) : c.num = n + k := by
  induction cs generalizing n o k with
  | nil => simp at hc
  | cons x r ih =>
    cases k with
    | zero => simp at hc; subst hc; rw [h.2.1]; omega
    | succ k => have := ih h.2.2.2.2 (by simpa using hc); omega
structure Fz (d : Dsk) (n : Nat) (k : Int) : Prop where
  size : d.n = n
  fuse : d.fuse = 0
  on : d.down = false
  lo : 0 ≤ d.ops
  hi : d.ops ≤ k
theorem Fz.tick {d : Dsk} {n : Nat} {k : Int} (h : Fz d n k) : Fz (d.tick (d.ops + 1)) n (k + 1) := ⟨h.size, h.fuse, h.on, by have := h.lo; show 0 ≤ d.ops + 1; omega, by have := h.hi; show d.ops + 1 ≤ _; omega⟩
theorem Fz.mono {d : Dsk} {n : Nat} {k l : Int} (h : Fz d n k) (hl : k ≤ l) : Fz d n l := ⟨h.size, h.fuse, h.on, h.lo, by have := h.hi; omega⟩
theorem Fz.wrote {d : Dsk} {n : Nat} {k : Int} (h : Fz d n k) (b : Int) (x : List Int) : Fz (d.wrote b x 4) n k := ⟨h.size, h.fuse, h.on, h.lo, h.hi⟩
theorem Fz.synced {d : Dsk} {n : Nat} {k : Int} (h : Fz d n k) : Fz d.synced n k := ⟨h.size, h.fuse, h.on, h.lo, h.hi⟩
def SomeB (a z : Int) (cs : List Ck.O) (f f' : Int → List Int) : Prop := ∀ b, f' b = f b ∨ ∃ c ∈ cs, b = placeV a z c.num ∧ f' b = blkC c
theorem SomeB.refl (a z : Int) (cs : List Ck.O) (f : Int → List Int) : SomeB a z cs f f := fun b => Or.inl rfl
theorem SomeB.trans {a z : Int} {cs cs2 : List Ck.O} {f g h : Int → List Int} (h1 : SomeB a z cs f g) (h2 : SomeB a z cs2 g h) : SomeB a z (cs ++ cs2) f h := fun b => by
  rcases h2 b with q | ⟨c, q1, q2, q3⟩
  · rcases h1 b with r | ⟨c, r1, r2, r3⟩
    · exact Or.inl (q.trans r)
    · exact Or.inr ⟨c, List.mem_append_left _ r1, r2, q.trans r3⟩
  · exact Or.inr ⟨c, List.mem_append_right _ q1, q2, q3⟩
theorem SomeB.sub {a z : Int} {cs cs2 : List Ck.O} {f g : Int → List Int} (h : SomeB a z cs f g) (hs : ∀ c ∈ cs, c ∈ cs2) : SomeB a z cs2 f g := fun b => by
  rcases h b with q | ⟨c, q1, q2, q3⟩
  · exact Or.inl q
  · exact Or.inr ⟨c, hs c q1, q2, q3⟩
structure FlO (l : Lg) (d : Dsk) (n : Nat) (k : Int) (E : Int) (l' : Lg) (d' : Dsk) : Prop where
  fz : Fz d' n (k + l.closed.sealed.length + 3)
  ok : E = 0 → l' = l.fl ∧ d'.seen = putB l.at_ l.size d.seen l.closed.sealed ∧ (l.closed.sealed = [] → d' = d) ∧ (l.closed.sealed ≠ [] → d'.pend = [])
  no : E ≠ 0 → (∃ b, l' = { l.closed with fresh := b }) ∧ l.closed.sealed ≠ []
  some : SomeB l.at_ l.size l.closed.sealed d.seen d'.seen
end Go.Proofs.Ytgnedbagelhcbaa
namespace Go.Proofs.Ytgnedbagelhcbaa
open Go.ChangeShapes Go.WideShapes Go.ChangeAt Go.RowKit
set_option linter.unusedVariables false
set_option linter.unusedSimpArgs false
set_option maxRecDepth 20000
structure FI (l : Lg) (all : List Ck.O) (ts : List ByteArray) (d : Dsk) : Prop where
  a : AInv l all (nums (cat ts))
  inv : l.Inv
  at_ : l.at_ = 0
  sz : l.size = 64
  ok : ∀ t ∈ ts, okF t = true
  pb : ∀ b, d.seen b = zs 256 ∨ ∃ c ∈ all, b = placeV 0 64 c.num ∧ d.seen b = blkC c
  la : ∀ c ∈ all.take l.last.length, d.seen (placeV 0 64 c.num) = blkC c
  pe : l.sealed = [] → d.pend = []
theorem cat_small : ∀ (ts : List ByteArray), (∀ t ∈ ts, okF t = true) → (cat ts).size ≤ 406 * ts.length
  | [], _ => by show 0 ≤ _; omega
  | t :: r, h => by
    have h1 := cat_small r (fun x hx => h x (List.mem_cons_of_mem _ hx))
    have h2 := frS_size (h t List.mem_cons_self)
    show (frS t ++ cat r).size ≤ _
    rw [ByteArray.size_append, List.length_cons]; omega
theorem AInv.len {l : Lg} {all : List Ck.O} {S : List Int} (h : AInv l all S) : all.length = l.last.length + l.sealed.length := by
  rw [h.sld, List.length_drop]; have := h.le; omega
theorem FI.few {l : Lg} {all : List Ck.O} {ts : List ByteArray} {d : Dsk} (h : FI l all ts d) : all.length ≤ 64 ∧ (l.open_.size ≠ 0 → all.length ≤ 63) := by
  have h1 := h.inv.room
  have h2 := h.a.len
  rw [h.sz] at h1
  have h3 : 0 ≤ wantN l.open_.size := by unfold wantN; omega
  refine ⟨by omega, fun hq => ?_⟩
  have h4 : 1 ≤ wantN l.open_.size := by unfold wantN; omega
  omega
theorem place64 (x : Int) (h : 0 ≤ x ∧ x < 64) : placeV 0 64 x = x := by unfold placeV; omega
theorem FI.app {l : Lg} {all : List Ck.O} {ts : List ByteArray} {d : Dsk} (h : FI l all ts d) (hl : ts.length ≤ 12) (s : ByteArray) (hk : okA l s = true) : ∃ all', FI (appL l s) all' (ts ++ [s]) d := by
  have hs : okF s = true := by unfold okA at hk; simp at hk; exact hk.1
  have hf : fullA l (frS s) = false := by unfold okA at hk; simp at hk; exact hk.2
  have hF := frS_size hs
  have hc := cat_small ts h.ok
  have he : appL l s = l.app (frS s) := by unfold appL; rw [if_pos hk]
  have hop := h.inv.op
  have hfu : ¬ l.size < (l.last.length : Int) + l.sealed.length + wantN ((l.open_.size : Int) + (frS s).size) := by
    unfold fullA at hf; exact of_decide_eq_false hf
  have hfew := h.few
  obtain ⟨new, h1, h2⟩ := h.a.app (frS s) (by rw [nums_length]; omega) (by omega)
  have hcat : nums (cat ts) ++ nums (frS s) = nums (cat (ts ++ [s])) := by rw [cat_snoc, nums_app]
  rw [hcat] at h1
  have hlast : (l.app (frS s)).last = l.last := sealN_last _ _
  have hsz : (l.open_ ++ frS s).size = l.open_.size + (frS s).size := ByteArray.size_append
  have hopen : (l.app (frS s)).open_.size = (l.open_.size + (frS s).size) - (l.open_.size + (frS s).size) / 214 * 214 := by
    unfold Lg.app
    rw [sealN_open _ _ (by show _ ≤ (l.open_ ++ frS s).size; omega)]
    show (l.open_ ++ frS s).size - _ = _
    rw [hsz]
  have hsl : (l.app (frS s)).sealed.length = l.sealed.length + (l.open_.size + (frS s).size) / 214 := by
    unfold Lg.app
    rw [sealN_len, hsz]; rfl
  have hfin : (l.app (frS s)).fin = l.fin + (frS s).size := by unfold Lg.app; rw [sealN_fin]; rfl
  have hat : (l.app (frS s)).at_ = l.at_ := by unfold Lg.app; rw [sealN_at]; rfl
  have hz : (l.app (frS s)).size = l.size := by unfold Lg.app; rw [sealN_size]; rfl
  have hep : (l.app (frS s)).ep = l.ep := by unfold Lg.app; rw [sealN_ep]; rfl
  refine ⟨all ++ new, ?_⟩
  rw [he]
  refine ⟨h1, ⟨by rw [hat]; exact h.inv.at_, by rw [hz]; exact h.inv.size, by rw [hep]; exact h.inv.ep, sealN_next (l.more (frS s)) h.inv.next _, by rw [hopen]; omega, ?_, fun c hc2 => ?_, ?_⟩, by rw [hat]; exact h.at_, by rw [hz]; exact h.sz, fun t ht => ?_, fun b => ?_, ?_, fun q => ?_⟩
  · rw [hopen, hfin]; have := h.inv.fin; omega
  · rw [h1.sld] at hc2
    exact h1.seq.ok c (List.mem_of_mem_drop hc2)
  · rw [hlast, hsl, hz, hopen]
    unfold wantN at hfu ⊢
    omega
  · rcases List.mem_append.1 ht with q | q
    · exact h.ok t q
    · obtain rfl := List.mem_singleton.1 q; exact hs
  · rcases h.pb b with q | ⟨c, q1, q2⟩
    · exact Or.inl q
    · exact Or.inr ⟨c, List.mem_append_left _ q1, q2⟩
  · rw [hlast, List.take_append_of_le_length h.a.le]; exact h.la
  · have : l.sealed.length = 0 := by have h9 : (l.app (frS s)).sealed.length = 0 := by rw [q]; rfl
                                     rw [hsl] at h9; omega
    exact h.pe (List.eq_nil_of_length_eq_zero this)
theorem closed_at (l : Lg) : l.closed.at_ = l.at_ ∧ l.closed.size = l.size ∧ l.closed.last = l.last ∧ l.closed.ep = l.ep ∧ l.closed.fin = l.fin ∧ (l.closed.sealed = [] → l.sealed = []) := by
  unfold Lg.closed
  split
  · exact ⟨rfl, rfl, rfl, rfl, rfl, id⟩
  · exact ⟨rfl, rfl, rfl, rfl, rfl, fun q => by have : l.sealed ++ _ = [] := q; simp at this⟩
theorem apart {all : List Ck.O} {k : Nat} (hq : Seq 1 0 1 all) (hl : all.length ≤ 64) {c c' : Ck.O} (hc : c ∈ all.take k) (hc' : c' ∈ all.drop k) : placeV 0 64 c.num ≠ placeV 0 64 c'.num := by
  obtain ⟨i, hi, e⟩ := List.getElem_of_mem hc
  obtain ⟨j, hj, e'⟩ := List.getElem_of_mem hc'
  have h1 : all[i]? = some c := by
    rw [List.length_take] at hi
    rw [← e, List.getElem_take]; exact List.getElem?_eq_getElem (by omega)
  have h2 : all[k + j]? = some c' := by
    rw [List.length_drop] at hj
    rw [← e', List.getElem_drop]; exact List.getElem?_eq_getElem (by omega)
  have n1 := hq.at_num h1
  have n2 := hq.at_num h2
  rw [List.length_take] at hi
  rw [List.length_drop] at hj
  rw [place64 c.num (by omega), place64 c'.num (by omega)]; omega
theorem FI.flush {l : Lg} {all : List Ck.O} {ts : List ByteArray} {d : Dsk} (h : FI l all ts d) (hl : ts.length ≤ 12) {n : Nat} {k E : Int} {l' : Lg} {d' : Dsk} (hf : FlO l d n k E l' d') :
    ∃ all', FI l' all' ts d' ∧ (E = 0 → l'.sealed = [] ∧ l'.open_.size = 0 ∧ l'.last.length = all'.length ∧ l'.dur = l'.fin) := by
  have hc := cat_small ts h.ok
  have hfew := h.few
  obtain ⟨new, h1, h2⟩ := h.a.closed h.inv.op (by omega) (by rw [nums_length]; omega)
  obtain ⟨k1, k2, k3, k4, k5, k6⟩ := closed_at l
  have hlen := h1.len
  rw [k3] at hlen
  have hal : (all ++ new).length ≤ 64 := by
    have hcl := closed_len h.inv
    have hrm := h.inv.room
    rw [h.sz] at hrm
    by_cases ho : l.open_.size = 0
    · have : l.closed = l := by unfold Lg.closed; rw [if_pos ho]
      rw [this] at hlen
      have h3 : 0 ≤ wantN l.open_.size := by unfold wantN; omega
      omega
    · have h4 : 1 ≤ wantN l.open_.size := by unfold wantN; omega
      omega
  have hsd : l.closed.sealed = (all ++ new).drop l.last.length := by rw [h1.sld, k3]
  have hiv : ∀ b, ({ l.closed with fresh := b } : Lg).Inv := fun b => by
    refine ⟨by show 0 ≤ l.closed.at_ ∧ _; rw [k1]; exact h.inv.at_, by show 1 ≤ l.closed.size ∧ _; rw [k2]; exact h.inv.size, by show 0 ≤ l.closed.ep ∧ _; rw [k4]; exact h.inv.ep, by show 0 ≤ l.closed.next ∧ l.closed.next ≤ _; rw [h1.next]; omega, by show l.closed.open_.size < 214; omega, by show (l.closed.open_.size : Int) ≤ l.closed.fin; rw [h2, k5]; have := h.inv.fin; omega, fun c hc2 => ?_, ?_⟩
    · have hc3 : c ∈ l.closed.sealed := hc2
      rw [hsd] at hc3
      exact h1.seq.ok c (List.mem_of_mem_drop hc3)
    · show (l.closed.last.length : Int) + l.closed.sealed.length + wantN (l.closed.open_.size : Int) ≤ l.closed.size
      rw [h2, k3, k2, h.sz]
      unfold wantN; omega
  have hpb : ∀ b, d'.seen b = zs 256 ∨ ∃ c ∈ all ++ new, b = placeV 0 64 c.num ∧ d'.seen b = blkC c := fun b => by
    rcases hf.some b with q | ⟨c, q1, q2, q3⟩
    · rw [q]
      rcases h.pb b with r | ⟨c, r1, r2⟩
      · exact Or.inl r
      · exact Or.inr ⟨c, List.mem_append_left _ r1, r2⟩
    · rw [hsd] at q1
      rw [h.at_, h.sz] at q2
      exact Or.inr ⟨c, List.mem_of_mem_drop q1, q2, q3⟩
  have htk : (all ++ new).take l.last.length = all.take l.last.length := List.take_append_of_le_length h.a.le
  have hla : ∀ c ∈ (all ++ new).take l.last.length, d'.seen (placeV 0 64 c.num) = blkC c := fun c hc2 => by
    rcases hf.some (placeV 0 64 c.num) with q | ⟨c', q1, q2, q3⟩
    · rw [q]; rw [htk] at hc2; exact h.la c hc2
    · rw [hsd] at q1
      rw [h.at_, h.sz] at q2
      exact absurd q2 (apart h1.seq hal hc2 q1)
  by_cases h0 : E = 0
  · obtain ⟨o1, o2, o3, o4⟩ := hf.ok h0
    rw [h.at_, h.sz] at o2
    obtain ⟨bb, hb⟩ : ∃ b, l.fl = Lg.flushed { l.closed with fresh := b } := by
      unfold Lg.fl
      split
      · exact ⟨false, rfl⟩
      · exact ⟨l.closed.fresh, rfl⟩
    obtain ⟨a1, a2⟩ := (h1.fresh bb).flushed
    rw [← hb, ← o1] at a1 a2
    have hl' : l'.sealed = [] ∧ l'.open_ = l.closed.open_ ∧ l'.at_ = 0 ∧ l'.size = 64 ∧ l'.ep = l.ep ∧ l'.fin = l.fin ∧ l'.dur = l'.fin := by
      rw [o1, hb]; exact ⟨rfl, rfl, by show l.closed.at_ = 0; rw [k1]; exact h.at_, by show l.closed.size = 64; rw [k2]; exact h.sz, k4, k5, rfl⟩
    obtain ⟨m1, m2, m3, m4, m5, m6, m7⟩ := hl'
    refine ⟨all ++ new, ⟨a1, ⟨by rw [m3]; decide, by rw [m4]; decide, by rw [m5]; exact h.inv.ep, by rw [a1.next]; omega, by rw [m2, h2]; decide, by rw [m2, h2, m6]; have := h.inv.fin; omega, (fun c hc2 => by rw [m1] at hc2; cases hc2), ?_⟩, m3, m4, h.ok, hpb, fun c hc2 => ?_, fun _ => ?_⟩, fun _ => ⟨m1, by rw [m2]; exact h2, a2, m7⟩⟩
    · rw [a2, m1, m2, h2, m4]
      simp only [List.length_nil]; unfold wantN; omega
    · rw [a2, List.take_length] at hc2
      have hc3 : c ∈ (all ++ new).take l.last.length ∨ c ∈ (all ++ new).drop l.last.length := by
        rw [← List.take_append_drop l.last.length (all ++ new)] at hc2
        exact List.mem_append.1 hc2
      rcases hc3 with q | q
      · exact hla c q
      · obtain ⟨oo, hsq⟩ := Seq.drop l.last.length h1.seq (by omega)
        rw [o2, hsd]
        refine putB_seq _ _ _ _ hsq (by decide) ?_ c q
        rw [List.length_drop]; omega
    · by_cases hq : l.closed.sealed = []
      · rw [o3 hq]; exact h.pe (k6 hq)
      · exact o4 hq
  · obtain ⟨⟨bb, hb⟩, hne⟩ := hf.no h0
    subst hb
    refine ⟨all ++ new, ⟨h1.fresh bb, hiv bb, by show l.closed.at_ = 0; rw [k1]; exact h.at_, by show l.closed.size = 64; rw [k2]; exact h.sz, h.ok, hpb, ?_, fun q => absurd q hne⟩, fun q => absurd q h0⟩
    show ∀ c ∈ (all ++ new).take l.closed.last.length, _
    rw [k3]; exact hla
theorem FI.new : FI ⟨0, 64, 1, [], [], ByteArray.empty, 0, true, 1, 1⟩ [] [] (Dsk.new 64) :=
  ⟨⟨trivial, rfl, rfl, rfl, rfl, rfl, Nat.le_refl _⟩, ⟨by decide, by decide, by decide, by decide, by decide, by decide, (fun c hc => by cases hc), by decide⟩, rfl, rfl, (fun t ht => by cases ht), fun b => Or.inl (new_seen 64 b), (fun c hc => by cases hc), fun _ => rfl⟩
theorem FI.opened {l : Lg} {all : List Ck.O} {ts : List ByteArray} {d : Dsk} (h : FI l all ts d) (hl : ts.length ≤ 12) (h1 : l.sealed = []) (h2 : l.open_.size = 0) (h3 : l.last.length = all.length) (hn : d.n = 64) :
    ∃ j, scanR 0 64 0 (d.crash []) = (all, 0, (d.crash []).tick j) ∧ all.length ≤ 64 ∧ (∀ c ∈ all, c.Fits) ∧ tot all ≤ 100000 ∧ (joinR 0 all).sts.length ≤ 100 ∧ (opS all).size ≤ 100000 ∧ opB all = 1 ∧ (joinR 0 all).ep < 2 ∧ itL (opB all) (opS all) 1 = lsns 1 ts := by
  have hc := cat_small ts h.ok
  have hfew := h.few
  have hpe := h.pe h1
  have hseen : (d.crash []).seen = d.seen := by
    funext b
    rw [seen_none d hpe b]
    exact crash_out d [] b (by rw [hpe]; intro q hq; cases hq)
  have hwell : Well (d.crash []) 64 0 := ⟨hn, rfl, rfl, fun i => by show decide (i ∈ ([] : List Int)) = false; simp, by show (0 : Int) ≤ 0; omega, by show (0 : Int) ≤ 0; omega⟩
  obtain ⟨j, e1, _⟩ := scan_well (a := 0) (z := 64) (fst := 0) (n := 64) (by decide) hwell
  have hsc : scanL 0 64 0 (d.crash []).seen (64 : Int).toNat 0 = all := by
    rw [hseen]
    refine scanL_seq all _ 0 0 1 h.a.seq (by omega) (by omega) (by omega) (fun c hc2 => ?_) (by omega) (fun hq => ?_)
    · refine h.la c ?_
      rw [h3, List.take_length]; exact hc2
    · rcases h.pb (placeV 0 64 (0 + all.length)) with q | ⟨c, q1, q2, q3⟩
      · exact Or.inl (by rw [q]; exact isB_zs)
      · refine Or.inr ?_
        rw [q3, (chk_blk c (h.a.seq.ok c q1)).2.1]
        have := h.a.seq.num c q1
        omega
  rw [hsc] at e1
  have hcat : catC all = nums (cat ts) := by
    have := h.a.cat
    have e0 : nums l.open_ = [] := List.eq_nil_of_length_eq_zero (by rw [nums_length]; exact h2)
    rw [e0, List.append_nil] at this; exact this
  have hts : strOfNums (nums (cat ts)) = cat ts := tx_nums _
  have htx : tx (cat ts) = ts := cat_whole ts h.ok
  have htot := tot_seq h.a.seq
  have hit : itL 1 (cat ts) 1 = lsns 1 ts := by
    have hh : hasP 1 (cat ts) 1 = true := by unfold hasP; exact decide_eq_true (by omega)
    unfold itL
    rw [hh, if_pos rfl]
    unfold itS
    rw [show ((1 : Int) - 1).toNat = 0 by omega, ex_all, htx]
  refine ⟨j, e1, hfew.1, fun c hc2 => (h.a.seq.ok c hc2).fits, by omega, ?_⟩
  by_cases ha : all = []
  · subst ha
    have e0 : cat ts = { data := #[] } := by
      have : (cat ts).size = 0 := by have h9 := congrArg List.length hcat; rw [nums_length] at h9; exact h9.symm
      exact ByteArray.ext (Array.eq_empty_of_size_eq_zero this)
    have hb : opB [] = 1 := rfl
    have ho : opS [] = cat ts := by rw [e0]; rfl
    exact ⟨by show (0 : Nat) ≤ 100; omega, by rw [ho]; omega, hb, by decide, by rw [hb, ho]; exact hit⟩
  · obtain ⟨j1, j2⟩ := joinR_seq h.a.seq ha (by omega) (by omega) (by decide)
    have hb : opB all = 1 := by
      unfold opB
      rw [if_neg (by rw [j1]; show ¬ (all.map _).length = 0; rw [List.length_map]; exact fun q => ha (List.eq_nil_of_length_eq_zero q)), j2]
    have ho : opS all = cat ts := by unfold opS; rw [j1]; show strOfNums (catC all) = _; rw [hcat, hts]
    refine ⟨by rw [j1]; show (all.map _).length ≤ 100; rw [List.length_map]; omega, by rw [ho]; omega, hb, by rw [j1]; show (1 : Int) < 2; decide, by rw [hb, ho]; exact hit⟩
end Go.Proofs.Ytgnedbagelhcbaa
namespace Go.Proofs.Ytgnedbagelhcbaa
open Go.ChangeShapes Go.WideShapes Go.ChangeAt Go.RowKit
open Go.Deep
set_option linter.unusedVariables false
set_option linter.unusedSimpArgs false
theorem laidOut : laidOutB Try.prog = true := by kernel_rfl
section
variable {H : Type} {enc : TypeId × Value → H}
end
end Go.Proofs.Ytgnedbagelhcbaa
namespace Go.Proofs.Ytgnedbagelhcbaa
open Go.ChangeShapes Go.WideShapes Go.ChangeAt Go.RowKit Go.Deep
set_option linter.unusedVariables false
set_option linter.unusedSimpArgs false
set_option maxRecDepth 20000
end Go.Proofs.Ytgnedbagelhcbaa
namespace Go.Proofs.Ytgnedbagelhcbaa
open Go.ChangeShapes Go.WideShapes Go.ChangeAt Go.RowKit
open Go.Deep
set_option linter.unusedVariables false
set_option linter.unusedSimpArgs false
set_option maxRecDepth 20000
theorem info9s : (Try.prog.info? 9).map (fun i => (i.zero, i.size, i.bytes)) = some (some (.string ByteArray.empty), 1, 16) := by kernel_rfl
def OwnS (w : World) (base : Nat) (v : Value) (xs : List ByteArray) : Prop := w.ownsRow base 9 1 v xs.length (xs.map Value.string)
theorem OwnS.nil (w : World) (base : Nat) : OwnS w base (.slice none 0 0) [] := ⟨rfl, Or.inl ⟨rfl, rfl⟩⟩
theorem OwnS.form {w : World} {base : Nat} {v : Value} {xs : List ByteArray} (h : OwnS w base v xs) : ∃ oa cap, v = .slice oa xs.length cap := by
  rcases h.2 with ⟨rfl, h2⟩ | ⟨g, cap, cur, rfl, _⟩
  · exact ⟨none, 0, by rw [h2]⟩
  · exact ⟨_, cap, rfl⟩
theorem OwnS.off {F : Nat → Prop} {w w' : World} {base : Nat} {v : Value} {xs : List ByteArray} (h : OwnS w base v xs) (ho : Off F w w') (hF : ∀ j, v.ownBlock = some j → ¬ F j) : OwnS w' base v xs := by
  have hl := World.ownsRow.lt h
  obtain ⟨h1, h2⟩ := h
  refine ⟨h1, ?_⟩
  rcases h2 with h2 | ⟨g, cap, cur, rfl, hb', hc, rest⟩
  · exact Or.inl h2
  · exact Or.inr ⟨g, cap, cur, rfl, hb', (ho.block g (hl g rfl).2 (hF g rfl)).trans hc, rest⟩
theorem OwnS.keep {w w' : World} {base : Nat} {v : Value} {xs : List ByteArray} (h : OwnS w base v xs) (hb : Below w.heap.size w w') : OwnS w' base v xs := h.off (Off.of_below (F := fun _ => False) hb) (fun _ _ q => q)
theorem OwnS.snoc {w : World} {base : Nat} {v : Value} {xs : List ByteArray} (h : OwnS w base v xs) (ty : TypeId) (X : Nat) (x : ByteArray) (hX : Row w X #[.string x] 9) (hb : base ≤ w.heap.size) (hn : xs.length ≤ 1000000) :
    ∃ v' w', (Builtin.append_ #[73, 73] ty #[v, .slice (some ⟨X, 0, none⟩) 1 1]).run Try.prog w = .ok v' w' ∧ (OwnS w' base v' (xs ++ [x]) ∧ w.grownBy w' v.ownBlock ∧ (v'.ownBlock = v.ownBlock ∨ v'.ownBlock = some w.heap.size)) := by
  obtain ⟨i, hi, hz, hs, hby⟩ := Ck.info_parts info9s
  obtain ⟨v', w', hr, h2, h3, h4, h5⟩ := run_append_own_at (P := Try.prog) w base 73 ty 9 i _ 1 16 Try.underlying73 hi hz hs hby rfl (by decide) v xs.length (xs.map Value.string) h ⟨X, 0, none⟩ 1 1 [.string x] rfl (fun j u hj => by rw [Addr.add_mid, Nat.zero_add, cell_of_row w X j _ _ _ hX, ← hj, List.getElem?_toArray]) (fun u hu => by simp at hu; subst hu; rfl) (by unfold maxLen; omega) (by omega) hb
  refine ⟨v', w', hr, ?_, h3, h5⟩
  unfold OwnS
  rw [List.map_append, List.length_append]
  exact h2
theorem OwnS.at {w : World} {base : Nat} {v : Value} {xs : List ByteArray} (h : OwnS w base v xs) (k : Nat) (x : ByteArray) (hk : xs[k]? = some x) : ∃ pa cap, v = .slice (some pa) xs.length cap ∧ w.cell? (pa.add k) = some (.string x) := by
  have hc := fun g hg => World.ownsRow.cells h (g := g) hg
  rcases h.2 with ⟨rfl, h2⟩ | ⟨g, cap, cur, rfl, _⟩
  · rw [List.eq_nil_of_length_eq_zero h2] at hk; simp at hk
  · exact ⟨_, cap, rfl, hc g rfl k _ (by rw [List.getElem?_map, hk]; rfl)⟩
theorem It.Own.at {w : World} {base : Nat} {v : Value} {os : List It.O} (h : It.Own w base v os) (k : Nat) (c : It.O) (hk : os[k]? = some c) : ∃ pa cap, v = .slice (some pa) os.length cap ∧ w.cell? ((pa.add (k * 2)).add 1) = some (.string c.txt) := by
  have hlt := (List.getElem?_eq_some_iff.1 hk).1
  obtain ⟨oa, cap, hv, hcell⟩ := (It.Own.olds h).open
  obtain ⟨a, c', rfl, h1, h2⟩ := hcell k hlt
  rw [hk] at h1
  cases h1
  exact ⟨a, cap, hv, h2 1 _ rfl⟩
def FS (w wr : World) (gl gd : Nat) (l : Lg) (d : Dsk) (M : Nat) (v : Value) : Prop :=
  ∃ vl vs L, LD wr gl gd vl vs L l d M ∧ Below w.heap.size w wr ∧ ∀ j, lfoot gl gd vl vs L j → w.heap.size ≤ j ∧ v.ownBlock ≠ some j
theorem FS.call {w wr : World} {gl gd : Nat} {l l' : Lg} {d d' : Dsk} {M M' : Nat} {v : Value} {base : Nat} {ts : List ByteArray} {f : Nat} {args : Array Value} {r : Ending} (h : FS w wr gl gd l d M v) (ho : OwnS wr base v ts)
    (hc : ∀ F, LStep wr gl gd F l d M wr → Calls Try.prog f args wr fun e w' => e = r ∧ LStep wr gl gd F l' d' M' w') :
    Calls Try.prog f args wr fun e w' => e = r ∧ FS w w' gl gd l' d' M' v ∧ OwnS w' base v ts := by
  obtain ⟨vl, vs, L, h1, h2, h3⟩ := h
  refine (hc _ (LStep.refl h1)).mono ?_
  rintro e w' ⟨he, vl2, vs2, L2, k1, k2, k3⟩
  have hv : ∀ j, v.ownBlock = some j → ¬ lfoot gl gd vl vs L j := fun j q q2 => (h3 j q2).2 q
  refine ⟨he, ⟨vl2, vs2, L2, k1, h2.trans (k2.below h2.size (fun j q => (h3 j q).1)), fun j q => ?_⟩, ho.off k2 hv⟩
  rcases k3 j q with q2 | q2
  · exact h3 j q2
  · have := h2.size
    exact ⟨by omega, fun q3 => by have := (World.ownsRow.lt ho j q3).2; omega⟩
theorem FS.below {w wr w' : World} {gl gd : Nat} {l : Lg} {d : Dsk} {M : Nat} {v : Value} (h : FS w wr gl gd l d M v) (hb : Below wr.heap.size wr w') : FS w w' gl gd l d M v := by
  obtain ⟨vl, vs, L, h1, h2, h3⟩ := h
  exact ⟨vl, vs, L, h1.below hb, h2.trans (hb.mono h2.size), h3⟩
theorem FS.grown {w wr w' : World} {gl gd : Nat} {l : Lg} {d : Dsk} {M : Nat} {v v' : Value} {base : Nat} (h : FS w wr gl gd l d M v) (hb : w.heap.size ≤ base) (hv : ∀ j, v.ownBlock = some j → base ≤ j) (hg : wr.grownBy w' v.ownBlock) (hv' : v'.ownBlock = v.ownBlock ∨ v'.ownBlock = some wr.heap.size) : FS w w' gl gd l d M v' := by
  obtain ⟨vl, vs, L, h1, h2, h3⟩ := h
  have o : Off (fun j => v.ownBlock = some j) wr w' := Off.of_grown hg (fun k hk => hk)
  refine ⟨vl, vs, L, h1.off o (fun j q q2 => (h3 j q).2 q2), h2.trans (o.below h2.size (fun j q => by have := hv j q; omega)), fun j q => ⟨(h3 j q).1, fun q2 => ?_⟩⟩
  rcases hv' with r | r
  · rw [r] at q2; exact (h3 j q).2 q2
  · rw [r] at q2; cases q2; have := h1.lt q; omega
theorem LStep.plan {w wr : World} {gl gd : Nat} {F : Nat → Prop} {l : Lg} {d : Dsk} {M : Nat} (h : LStep w gl gd F l d M wr) (k : Value) (zl : List Int) (hc : Cel wr k (zl.map (.int .i64))) (hne : ∀ a n c, k = .slice (some a) n c → a.block ≠ gd) (zw : ∀ z ∈ zl, Wf z) (hl : zl.length * 8 ≤ 140737488355328) :
    Calls Try.prog 21 #[.pointer (some ⟨gd, 0, none⟩), k, .int .i64 0] wr fun e w' => e = .returned (.tuple #[]) ∧ LStep w gl gd F l (d.plan zl 0) M w' := by
  obtain ⟨vl, vs, L, h1, h2, h3⟩ := h
  refine (plan_any h1.dsk k zl hc hne zw hl 0 (wf_of (by decide) (by decide))).mono ?_
  rintro e w' ⟨rfl, m, hm, k1, k2⟩
  have hg : foot gd L gd := Or.inl rfl
  have hnew : ∀ j, foot gd (L.plan m) j → foot gd L j ∨ j = m := fun j q => by
    rcases q with q | q | q | q | q
    · exact Or.inl (Or.inl q)
    · exact Or.inl (Or.inr (Or.inl q))
    · exact Or.inl (Or.inr (Or.inr (Or.inl q)))
    · exact Or.inl (Or.inr (Or.inr (Or.inr (Or.inl q))))
    · have q' : (Value.map (some m)) = .map (some j) := q
      cases q'; exact Or.inr rfl
  refine ⟨rfl, vl, vs, L.plan m, ⟨h1.row.off k2 (fun q => by subst q; exact h1.ng hg), h1.last.off k2 (fun j q q2 => by subst q2; exact h1.nl _ q hg), h1.sld.off k2 (fun j q q2 => by subst q2; exact h1.ns _ q hg), k1, fun q => ?_, fun j q q2 => ?_, fun j q q2 => ?_⟩, h2.trans k2 (fun j q => by subst q; exact h3 _ (Or.inr (Or.inr (Or.inr hg)))), fun j q => ?_⟩
  · rcases hnew gl q with q | q
    · exact h1.ng q
    · have := h1.row.lt; omega
  · rcases hnew j q2 with q3 | q3
    · exact h1.nl j q q3
    · have := (World.ownsRow.lt h1.last j q).2; omega
  · rcases hnew j q2 with q3 | q3
    · exact h1.ns j q q3
    · have := (World.ownsRow.lt h1.sld j q).2; omega
  · rcases q with q | q | q | q
    · exact h3 j (Or.inl q)
    · exact h3 j (Or.inr (Or.inl q))
    · exact h3 j (Or.inr (Or.inr (Or.inl q)))
    · rcases hnew j q with q3 | q3
      · exact h3 j (Or.inr (Or.inr (Or.inr q3)))
      · have := h2.size; exact Or.inr (by omega)
theorem LStep.crash {w wr : World} {gl gd : Nat} {F : Nat → Prop} {l : Lg} {d : Dsk} {M : Nat} (h : LStep w gl gd F l d M wr) : Calls Try.prog 38 #[.pointer (some ⟨gd, 0, none⟩), .slice none 0 0] wr fun e w' => e = .returned (.tuple #[]) ∧ LStep w gl gd F l (d.crash []) M w' := by
  obtain ⟨vl, vs, L, h1, h2, h3⟩ := h
  refine (crash_any h1.dsk (.slice none 0 0) [] (Or.inl ⟨rfl, rfl⟩) (fun a n c q => by cases q)).mono ?_
  rintro e w' ⟨rfl, L2, k1, k2, k3⟩
  refine ⟨rfl, vl, vs, L2, ⟨h1.row.off k2 h1.ng, h1.last.off k2 h1.nl, h1.sld.off k2 h1.ns, k1, fun q => ?_, fun j q q2 => ?_, fun j q q2 => ?_⟩, h2.trans k2 (fun j q => h3 j (Or.inr (Or.inr (Or.inr q)))), fun j q => ?_⟩
  · rcases k3 gl q with q | q
    · exact h1.ng q
    · have := h1.row.lt; omega
  · rcases k3 j q2 with q3 | q3
    · exact h1.nl j q q3
    · have := (World.ownsRow.lt h1.last j q).2; omega
  · rcases k3 j q2 with q3 | q3
    · exact h1.ns j q q3
    · have := (World.ownsRow.lt h1.sld j q).2; omega
  · rcases q with q | q | q | q
    · exact h3 j (Or.inl q)
    · exact h3 j (Or.inr (Or.inl q))
    · exact h3 j (Or.inr (Or.inr (Or.inl q)))
    · rcases k3 j q with q3 | q3
      · exact h3 j (Or.inr (Or.inr (Or.inr q3)))
      · have := h2.size; exact Or.inr (by omega)
theorem bytes3 : Try.prog.bytesOf 3 = 8 := by kernel_rfl
end Go.Proofs.Ytgnedbagelhcbaa
