/-
  Plain facts on joining chunks: which chunks follow, and what stream they hold.
-/
import Derived.Test.YtbpaffjoedihbaaSmc
import Derived.Lib.AppendStr
namespace Go.Proofs.Ytbpaffjoedihbaa
open Go.ChangeShapes Go.WideShapes Go.ChangeAt Go.RowKit
set_option linter.unusedVariables false
set_option linter.unusedSimpArgs false

/-- What was joined so far. -/
structure J where
  ep : Int
  str : List Int
  sts : List St.O
def J0 : J := ⟨0, [], []⟩
/-- Whether a chunk follows. -/
def okJ (first base : Int) (k : Nat) (j : J) (c : Ck.O) : Bool := decide (c.num = (first + k) % 4294967296 ∧ j.ep ≤ c.ep ∧ base ≤ c.off ∧ c.off - base ≤ j.str.length)
def nextJ (base : Int) (j : J) (c : Ck.O) : J := ⟨c.ep, j.str.take (c.off - base).toNat ++ nums c.txt, j.sts ++ [⟨c.num, c.off⟩]⟩
def runJ (first base : Int) : Nat → J → List Ck.O → J
  | _, j, [] => j
  | k, j, c :: r => if okJ first base k j c then runJ first base (k + 1) (nextJ base j c) r else j
/-- How many letters chunks hold. -/
def tot : List Ck.O → Nat
  | [] => 0
  | c :: r => c.txt.size + tot r
def baseJ : List Ck.O → Int
  | [] => 0
  | c :: _ => c.off
def joinR (first : Int) (os : List Ck.O) : J := runJ first (baseJ os) 0 J0 os
def joinB (first : Int) (os : List Ck.O) : Int := if (joinR first os).sts.length = 0 then 0 else baseJ os
/-- Chunks as they come in. -/
def Ck.O.Fits (c : Ck.O) : Prop := (0 ≤ c.ep ∧ c.ep ≤ 4294967295) ∧ (0 ≤ c.num ∧ c.num ≤ 4294967295) ∧ (0 ≤ c.off ∧ c.off ≤ 18446744073709551615)
/-- Behind so many chunks. -/
structure Inv (first : Int) (os : List Ck.O) (k : Nat) (j : J) : Prop where
  run : runJ first (baseJ os) k j (os.drop k) = joinR first os
  bytes : Bytes j.str
  room : j.str.length + tot (os.drop k) ≤ 1048576
  len : j.sts.length = k
  ep : 0 ≤ j.ep ∧ j.ep ≤ 4294967295
theorem Inv.start (first : Int) (os : List Ck.O) (h : tot os ≤ 1048576) : Inv first os 0 J0 :=
  ⟨rfl, fun y hy => absurd hy (by simp [J0]), by simpa [J0] using h, rfl, by simp [J0]⟩
theorem drop_at {os : List Ck.O} {k : Nat} {c : Ck.O} (h : os[k]? = some c) : os.drop k = c :: os.drop (k + 1) := by
  obtain ⟨hk, e⟩ := List.getElem?_eq_some_iff.1 h
  rw [List.drop_eq_getElem_cons hk, e]
theorem Inv.next {first : Int} {os : List Ck.O} {k : Nat} {j : J} (h : Inv first os k j) {c : Ck.O} (hc : os[k]? = some c) (hf : c.Fits) (hok : okJ first (baseJ os) k j c = true) : Inv first os (k + 1) (nextJ (baseJ os) j c) := by
  have hd := drop_at hc
  refine ⟨?_, ?_, ?_, by simp [nextJ, h.len], hf.1⟩
  · rw [← h.run, hd, runJ, if_pos hok]
  · exact (h.bytes.sub fun y hy => List.mem_of_mem_take hy).append (nums_bytes _)
  · have := h.room
    rw [hd, tot] at this
    simp only [nextJ, List.length_append, nums_length, List.length_take]
    omega
theorem Inv.stop {first : Int} {os : List Ck.O} {k : Nat} {j : J} (h : Inv first os k j) {c : Ck.O} (hc : os[k]? = some c) (hok : okJ first (baseJ os) k j c = false) : joinR first os = j := by
  rw [← h.run, drop_at hc, runJ, if_neg (by simp [hok])]
theorem Inv.done {first : Int} {os : List Ck.O} {k : Nat} {j : J} (h : Inv first os k j) (hk : os.length ≤ k) : joinR first os = j := by
  rw [← h.run, List.drop_eq_nil_of_le hk, runJ]
theorem joinB_is {first : Int} {os : List Ck.O} {j : J} (h : joinR first os = j) : joinB first os = if j.sts.length = 0 then 0 else baseJ os := by unfold joinB; rw [h]
theorem baseJ_at {os : List Ck.O} {c : Ck.O} (h : os[0]? = some c) : baseJ os = c.off := by
  cases os with
  | nil => simp at h
  | cons a r => simp at h; subst h; rfl
theorem ok_first {first : Int} {os : List Ck.O} {j : J} {c : Ck.O} (hf : 0 ≤ first ∧ first ≤ 4294967295) (h : os[0]? = some c) (hc : c.Fits) (he : j.ep ≤ c.ep) : okJ first (baseJ os) 0 j c = decide (c.num = first) := by
  unfold okJ
  rw [baseJ_at h]
  have : (first + ((0 : Nat) : Int)) % 4294967296 = first := by omega
  rw [this]
  by_cases q : c.num = first
  · rw [decide_eq_true q]
    exact decide_eq_true ⟨q, he, by omega, by omega⟩
  · rw [decide_eq_false q]
    exact decide_eq_false fun x => q x.1
/-- Behind Join. -/
def Joined (w : World) (first : Int) (os : List Ck.O) (ex : Ending) (w' : World) : Prop :=
  ∃ v', ex = .returned (.tuple #[.int .u64 (joinB first os), .string (strOfNums (joinR first os).str), v', .int .u32 (joinR first os).ep]) ∧ St.Own w' w.heap.size v' (joinR first os).sts ∧ Below w.heap.size w w'
theorem results_tmp4 {fn : Func} {t u v x : Tmp} (h : fn.results = #[.tmp t, .tmp u, .tmp v, .tmp x]) (tmps : Array Value) (P : Program) (w : World) :
    (results fn tmps).run P w = .ok (.tuple #[tmps.getD t undef, tmps.getD u undef, tmps.getD v undef, tmps.getD x undef]) w := by
  simp [results, h]
theorem next_str (j : J) (base : Int) (c : Ck.O) (D : Nat) (h : c.off - base = D) : (strOfNums j.str).extract 0 D ++ c.txt = strOfNums (nextJ base j c).str := by
  unfold nextJ; rw [extract_tx, h, Int.toNat_natCast, List.drop_zero, strOfNums_append, tx_nums]
theorem wrap_next (f : Int) (k : Nat) : (((f + (k : Int)) % 4294967296) + 1) % 4294967296 = (f + ((k + 1 : Nat) : Int)) % 4294967296 := by omega
theorem built78two (a b : Int) : (Try.prog.built 78 [(0, .int .u32 a), (1, .int .u64 b)]) = some #[.int .u32 a, .int .u64 b] := by kernel_rfl
theorem St.Own.lands {w : World} {base : Nat} {v : Value} {os : List St.O} (h : St.Own w base v os) (k : Nat) (hk : v.ownBlock = some k) : base ≤ k := (World.ownsRow.lt h k hk).1
theorem Ck.Olds.room {os : List Ck.O} {k : Nat} {c : Ck.O} (h : os[k]? = some c) : c.txt.size ≤ tot (os.drop k) := by
  rw [drop_at h, tot]; omega
end Go.Proofs.Ytbpaffjoedihbaa
