/-
  Proved here: what a machine tells of its pages (has, At, Last), and what is answered with an error alone.
-/
import Derived.Test.YtpncmbkklkfmnaaMds
namespace Go.Proofs.Ytpncmbkklkfmnaa
open Go.ChangeShapes Go.WideShapes Go.ChangeAt Go.RowKit
open Go.Deep Go.Maps
set_option linter.unusedVariables false
set_option linter.unusedSimpArgs false
set_option maxRecDepth 20000


theorem build_cells {P : Program} {ops : Array Oper} {rest : List Oper} {o : Oper} {a : Act} {w : World} {Q : Exit → Act → World → Prop} (hgd : o.guard = none) (t : TypeId) (parts : Array (Nat × Operand)) (ho : o.op = .build t parts)
    (vs : List (Nat × Value)) (hv : (parts.toList.map fun (i, x) => (i, a.eval x)) = vs) (cs : Array Value) (hb : P.built t vs = some cs)
    (h : wpList P ops Q rest (a.put o.dst (.agg cs)) w) : wpList P ops Q (o :: rest) a w := by
  refine wpList_plain hgd fun K hK => ?_
  have e : (parts.map fun (i, x) => (i, a.eval x)).toList = vs := by rw [← hv, Array.toList_map]
  unfold Oper.wp execOp
  simp only [ho, Sem.run_bind, run_build w t _ cs (by rw [e]; exact hb), Result.andThen_ok, Sem.run_pure]
  exact hK _ _ h
theorem ret_cell {P : Program} {fn : Func} {p : Tmp} {ty : TypeId} (h : fn.results = #[.cell p ty]) (tmps : Array Value) (w : World) (g : Nat) (t : TypeId) (cs : Array Value) (d : TypeDesc)
    (hp : tmps.getD p undef = .pointer (some ⟨g, 0, none⟩)) (hg : Row w g cs t)
    (hu : P.underlying ty = some d) (hd : (match d with | .struct _ | .array _ _ => true | _ => false) = true) (hi : (P.info? ty).map (·.size) = some cs.size) :
    (results fn tmps).run P w = .ok (.agg cs) w :=
  results_cell_row h tmps w g t cs (0, 0) _ hp hg hu hd hi
theorem load_cells {P : Program} {ops : Array Oper} {rest : List Oper} {o : Oper} {a : Act} {w : World} {Q : Exit → Act → World → Prop} (hgd : o.guard = none) (ty : TypeId) (x : Operand) (ho : o.op = .load ty x)
    (g : Nat) (hx : a.eval x = .pointer (some ⟨g, 0, none⟩)) (t : TypeId) (cs : Array Value) (hg : Row w g cs t) (n : Nat) {d : TypeDesc}
    (hu : P.underlying ty = some d) (hd : (match d with | .struct _ | .array _ _ => true | _ => false) = true) (hi : (P.info? ty).map (·.size) = some n) (hn : cs.size = n)
    (h : wpList P ops Q rest (a.put o.dst (.agg cs)) w) : wpList P ops Q (o :: rest) a w :=
  wpList_load_row hgd ty x ho g hx t cs (0, 0) _ hg hu hd (by rw [hi, hn]) h
theorem only_any (e : Int) (w : World) : Calls Try.prog 19 #[.int .i64 e] w fun r w' => r = .returned (.agg (Rep.fail e).arr) ∧ Below w.heap.size w w' := by
  have hz := zero40
  have r0 : Row (w.alloc (.cells Rep.zero.arr 40)) w.heap.size Rep.zero.arr 40 := Row.new _ _ _
  have ab : Below w.heap.size w (w.alloc (.cells Rep.zero.arr 40)) := (Below.refl _ _).alloc (Nat.le_refl _) _
  have fs : (Rep.fail e).arr.size = 67 := Rep.arr_size (zs_length _)
  have fo := (Rep.fail e).one
  have bu := built40_err e
  obtain ⟨fa, HF⟩ : ∃ fa, Hid ((Rep.fail e).arr = fa) := ⟨_, rfl⟩
  rw [HF.out] at fs fo bu ⊢
  have HFS : Hid _ := fs
  clear fs
  have tb : Hid (1 = 1) := rfl
  have ts : Hid (1 = 1) := rfl
  go_enter Try.func19, Try.ntmps19
  go_wp2_with (first
    | (have hh := tb; clear hh tb; refine build_cells rfl 40 #[(0, .tmp 3)] rfl _ rfl fa bu ?_)
    | (have hh := ts; clear hh ts; refine store_cells rfl 40 (.tmp 2) (.tmp 4) rfl w.heap.size fa rfl rfl 40 _ r0 67 size40 rz HFS.out fo ?_))
  refine bodyPost_ret (v := .agg fa) ?_ rfl ⟨rfl, below_setRow ab (Nat.le_refl _) _⟩
  exact ret_cell (fn := Try.f19) rfl _ _ w.heap.size 40 fa _ rfl (r0.set _) Try.underlying40 rfl (by rw [size40, HFS.out])
theorem M.At.c0 {w : World} {g : Nat} {m : M} (c : m.At w g) : w.cell? ⟨g, 0, none⟩ = some (.slice (some ⟨m.pb, 0, none⟩) m.ps.length m.pcap) := row_at c.row 0 _ rfl
theorem M.At.c1 {w : World} {g : Nat} {m : M} (c : m.At w g) : w.cell? ⟨g, 1, none⟩ = some (.int .u32 m.max) := row_at c.row 1 _ rfl
theorem M.At.c2 {w : World} {g : Nat} {m : M} (c : m.At w g) : w.cell? ⟨g, 2, none⟩ = some (.int .u32 m.last) := row_at c.row 2 _ rfl
theorem M.At.c3 {w : World} {g : Nat} {m : M} (c : m.At w g) : w.cell? ⟨g, 3, none⟩ = some (.int .u64 m.begun) := row_at c.row 3 _ rfl
theorem M.At.c4 {w : World} {g : Nat} {m : M} (c : m.At w g) : w.cell? ⟨g, 4, none⟩ = some (.map (some m.lm)) := row_at c.row 4 _ rfl
theorem M.At.c5 {w : World} {g : Nat} {m : M} (c : m.At w g) : w.cell? ⟨g, 5, none⟩ = some (.bool m.closed) := row_at c.row 5 _ rfl
theorem has_nil (k : Int) (w : World) : Calls Try.prog 24 #[.pointer none, .int .u16 k] w fun r w' => r = .returned (.bool false) ∧ w' = w := by
  go_enter Try.func24, Try.ntmps24
  go_wp2
  go_ret
  exact ⟨rfl, rfl⟩
theorem has_any {w : World} {F : Nat → Prop} {g : Nat} {m : M} (c : MA w F g m) (k : Int) (h0 : 0 ≤ k) (h1 : k ≤ 65535) : Calls Try.prog 24 #[.pointer (some ⟨g, 0, none⟩), .int .u16 k] w fun r w' => r = .returned (.bool (decide (k < m.ps.length))) ∧ w' = w := by
  have c0 := c.at_.c0
  have hn : m.ps.length ≤ 16 := by have := c.ok.n1; simpa [M.abs] using this
  obtain ⟨n, HN⟩ : ∃ n, Hid (m.ps.length = n) := ⟨_, rfl⟩
  rw [HN.out] at c0 hn ⊢
  have hw : IntKind.i64.wrap k = k := by rw [IntKind.wrap_i64]; omega
  clear c
  go_enter Try.func24, Try.ntmps24
  go_wp2
  go_ret
  exact ⟨rfl, rfl⟩
/-- Whether a text lies within a body. -/
def fitsB (off : Int) (s : ByteArray) : Bool := decide (0 ≤ off) && (decide (off ≤ 64) && decide ((s.size : Int) ≤ 64 - off))
theorem fits_any (off : Int) (s : ByteArray) (h0 : -9223372036854775808 ≤ off) (h1 : off ≤ 9223372036854775807) (w : World) : Calls Try.prog 27 #[.int .i64 off, .string s] w fun r w' => r = .returned (.bool (fitsB off s)) ∧ w' = w := by
  by_cases a : 0 ≤ off
  · by_cases b : off ≤ 64
    · have hw : IntKind.i64.wrap (64 - off) = 64 - off := by rw [IntKind.wrap_i64]; omega
      have e : fitsB off s = decide ((s.size : Int) ≤ 64 - off) := by simp [fitsB, a, b]
      rw [e]
      go_enter Try.func27, Try.ntmps27
      go_wp2
      go_ret
      exact ⟨rfl, rfl⟩
    · have e : fitsB off s = false := by simp [fitsB, b]
      rw [e]
      go_enter Try.func27, Try.ntmps27
      go_wp2
      go_ret
      exact ⟨rfl, rfl⟩
  · have e : fitsB off s = false := by simp [fitsB, a]
    rw [e]
    go_enter Try.func27, Try.ntmps27
    go_wp2
    go_ret
    exact ⟨rfl, rfl⟩
theorem last_nil (w : World) : Calls Try.prog 14 #[.pointer none] w fun r w' => r = .returned (.int .u32 0) ∧ w' = w := by
  go_enter Try.func14, Try.ntmps14
  go_wp2
  go_ret
  exact ⟨rfl, rfl⟩
theorem last_any {w : World} {F : Nat → Prop} {g : Nat} {s : St} (c : MAt w F g s) : Calls Try.prog 14 #[.pointer (some ⟨g, 0, none⟩)] w fun r w' => r = .returned (.int .u32 s.last) ∧ w' = w := by
  obtain ⟨m, rfl, c⟩ := c
  have c0 := c.at_.c2
  show Calls Try.prog 14 #[.pointer (some ⟨g, 0, none⟩)] w fun r w' => r = .returned (.int .u32 m.last) ∧ w' = w
  clear c
  go_enter Try.func14, Try.ntmps14
  go_wp2
  go_ret
  exact ⟨rfl, rfl⟩
/-- The newest version that is no newer than a timestamp. -/
def atV (vs : List Ver) (ts : Int) : Ver := (vs.reverse.find? fun v => decide (v.ts ≤ ts)).getD Ver.zero
theorem atV_is {vs : List Ver} {ts : Int} {i : Nat} {v : Ver} (hi : vs[i]? = some v) (hv : v.ts ≤ ts) (ha : ∀ j u, i < j → vs[j]? = some u → ts < u.ts) : atV vs ts = v := by
  have hl := (List.getElem?_eq_some_iff.1 hi).1
  have e : vs.reverse = (vs.drop (i + 1)).reverse ++ v :: (vs.take i).reverse := by
    have q : vs = vs.take i ++ v :: vs.drop (i + 1) := by
      have := List.drop_eq_getElem_cons hl
      rw [List.getElem?_eq_getElem hl] at hi
      rw [Option.some.inj hi] at this
      rw [← this, List.take_append_drop]
    conv => lhs; rw [q]
    simp
  unfold atV
  have : vs.reverse.find? (fun v => decide (v.ts ≤ ts)) = some v := by
    rw [List.find?_eq_some_iff_append]
    refine ⟨by simpa using hv, _, _, e, fun u hu => ?_⟩
    rw [List.mem_reverse] at hu
    obtain ⟨j, hj⟩ := List.mem_iff_getElem?.1 hu
    rw [List.getElem?_drop] at hj
    have := ha (i + 1 + j) u (by omega) hj
    simpa using this
  rw [this]; rfl
theorem atV_snoc (vs : List Ver) (v : Ver) (ts : Int) : atV (vs ++ [v]) ts = if v.ts ≤ ts then v else atV vs ts := by
  unfold atV
  rw [List.reverse_append]
  show ((v :: vs.reverse).find? _).getD _ = _
  rw [List.find?_cons]
  by_cases h : v.ts ≤ ts
  · rw [decide_eq_true h, if_pos h]; rfl
  · rw [decide_eq_false h, if_neg h]
theorem atV_mem {last : Int} {vs : List Ver} (h : VsOk last vs) {ts : Int} (h0 : 0 ≤ ts) : atV vs ts ∈ vs ∧ (atV vs ts).ts ≤ ts := by
  obtain ⟨v, r, e, hv⟩ := h.first
  have hs : (vs.reverse.find? fun v => decide (v.ts ≤ ts)).isSome = true := List.find?_isSome.2 ⟨v, by rw [e]; simp, by simp; omega⟩
  obtain ⟨u, hu⟩ := Option.isSome_iff_exists.1 hs
  have h1 := List.find?_some hu
  have h2 := List.mem_of_find?_eq_some hu
  unfold atV
  rw [hu]
  simp at h1
  exact ⟨by simpa using h2, h1⟩
theorem atV_ok {last : Int} {vs : List Ver} (h : VsOk last vs) {ts : Int} (h0 : 0 ≤ ts) : (atV vs ts).Ok := (h.ok _ (atV_mem h h0).1).1
theorem at_nil (k ts : Int) (w : World) : Calls Try.prog 16 #[.pointer none, .int .u16 k, .int .u32 ts] w fun r w' => r = .returned (.agg Ver.zero.arr) ∧ Below w.heap.size w w' := by
  have hz := zero44
  have r0 : Row (w.alloc (.cells Ver.zero.arr 44)) w.heap.size Ver.zero.arr 44 := Row.new _ _ _
  have ab : Below w.heap.size w (w.alloc (.cells Ver.zero.arr 44)) := (Below.refl _ _).alloc (Nat.le_refl _) _
  have hh := has_nil k (w.alloc (.cells Ver.zero.arr 44))
  have bu := built44_none
  have HVS : Hid (Ver.zero.arr.size = 65) := vz
  have fo := Ver.zero.one
  generalize Ver.zero.arr = Z at hz r0 ab hh bu HVS fo ⊢
  have tb : Hid (1 = 1) := rfl
  have ts' : Hid (1 = 1) := rfl
  go_enter Try.func16, Try.ntmps16
  go_wp2_with (first
    | (go_at_call 24; refine hh.mono ?_; clear hh; rintro e wb ⟨he, hww⟩; rw [hww]; clear hww wb; obtain rfl := he)
    | (have hh := tb; clear hh tb; refine build_cells rfl 44 #[] rfl _ rfl Z bu ?_)
    | (have hh := ts'; clear hh ts'; refine store_cells rfl 44 (.tmp 6) (.tmp 13) rfl w.heap.size Z rfl rfl 44 _ r0 65 size44 HVS.out HVS.out fo ?_))
  refine bodyPost_ret (v := .agg Z) ?_ rfl ⟨rfl, below_setRow ab (Nat.le_refl _) _⟩
  exact ret_cell (fn := Try.f16) rfl _ _ w.heap.size 44 Z _ rfl (r0.set _) Try.underlying44 rfl (by rw [size44, HVS.out])
theorem at_out {w : World} {F : Nat → Prop} {g : Nat} {m : M} (c : MA w F g m) (k ts : Int) (h0 : 0 ≤ k) (h1 : k ≤ 65535) (hk : ¬ k < m.ps.length) : Calls Try.prog 16 #[.pointer (some ⟨g, 0, none⟩), .int .u16 k, .int .u32 ts] w fun r w' => r = .returned (.agg Ver.zero.arr) ∧ Below w.heap.size w w' := by
  have hz := zero44
  have r0 : Row (w.alloc (.cells Ver.zero.arr 44)) w.heap.size Ver.zero.arr 44 := Row.new _ _ _
  have ab : Below w.heap.size w (w.alloc (.cells Ver.zero.arr 44)) := (Below.refl _ _).alloc (Nat.le_refl _) _
  have hh := has_any (c.below ab) k h0 h1
  rw [decide_eq_false hk] at hh
  have bu := built44_none
  have HVS : Hid (Ver.zero.arr.size = 65) := vz
  have fo := Ver.zero.one
  clear c hk
  generalize Ver.zero.arr = Z at hz r0 ab hh bu HVS fo ⊢
  have tb : Hid (1 = 1) := rfl
  have ts' : Hid (1 = 1) := rfl
  go_enter Try.func16, Try.ntmps16
  go_wp2_with (first
    | (go_at_call 24; refine hh.mono ?_; clear hh; rintro e wb ⟨he, hww⟩; rw [hww]; clear hww wb; obtain rfl := he)
    | (have hh := tb; clear hh tb; refine build_cells rfl 44 #[] rfl _ rfl Z bu ?_)
    | (have hh := ts'; clear hh ts'; refine store_cells rfl 44 (.tmp 6) (.tmp 13) rfl w.heap.size Z rfl rfl 44 _ r0 65 size44 HVS.out HVS.out fo ?_))
  refine bodyPost_ret (v := .agg Z) ?_ rfl ⟨rfl, below_setRow ab (Nat.le_refl _) _⟩
  exact ret_cell (fn := Try.f16) rfl _ _ w.heap.size 44 Z _ rfl (r0.set _) Try.underlying44 rfl (by rw [size44, HVS.out])
theorem MA.page {w : World} {F : Nat → Prop} {g : Nat} {m : M} (c : MA w F g m) {k : Nat} {p : Pg} (hp : m.ps[k]? = some p) : w.cell? ⟨m.pb, k, none⟩ = some p.val := by
  have hl := (List.getElem?_eq_some_iff.1 hp).1
  have := c.at_.prow.cellAt k (by omega)
  rw [this, List.getElem?_map, hp]; rfl
theorem MA.vsok {w : World} {F : Nat → Prop} {g : Nat} {m : M} (c : MA w F g m) {k : Nat} {p : Pg} (hp : m.ps[k]? = some p) : VsOk m.last p.vs := by
  have := c.ok.vs p.vs (by simp only [M.abs]; exact List.mem_map.2 ⟨p, List.mem_of_getElem? hp, rfl⟩)
  exact this
theorem MA.ver {w : World} {F : Nat → Prop} {g : Nat} {m : M} (c : MA w F g m) {k : Nat} {p : Pg} (hp : m.ps[k]? = some p) {i : Nat} {v : Ver} (hv : p.vs[i]? = some v) : ∀ j u, v.cells[j]? = some u → w.cell? ((⟨p.b, i * 65, none⟩ : Addr).add j) = some u := by
  intro j u hj
  have ok := (c.vsok hp).ok
  have hl := (List.getElem?_eq_some_iff.1 hv).1
  have hj65 : j < 65 := by have := (List.getElem?_eq_some_iff.1 hj).1; rw [Ver.cells_length (ok v (List.mem_of_getElem? hv)).1] at this; exact this
  rw [Addr.add_mid]
  have := (c.at_.pown p (List.mem_of_getElem? hp)).cellAt (g := p.b) (cap := p.cap) (i * 65 + j) (by omega)
  rw [this, flatV_at (fun v hv => (ok v hv).1) i j v hv hj65]; exact hj
set_option maxHeartbeats 1000000 in
theorem at_in {w : World} {F : Nat → Prop} {g : Nat} {m : M} (c : MA w F g m) (k : Nat) (p : Pg) (hp : m.ps[k]? = some p) (ts : Int) (hts : 0 ≤ ts) : Calls Try.prog 16 #[.pointer (some ⟨g, 0, none⟩), .int .u16 k, .int .u32 ts] w fun r w' => r = .returned (.agg (atV p.vs ts).arr) ∧ Below w.heap.size w w' := by
  have hkl := (List.getElem?_eq_some_iff.1 hp).1
  have hn : m.ps.length ≤ 16 := by have := c.ok.n1; simpa [M.abs] using this
  have hz := zero44
  have r0 : Row (w.alloc (.cells Ver.zero.arr 44)) w.heap.size Ver.zero.arr 44 := Row.new _ _ _
  have ab : Below w.heap.size w (w.alloc (.cells Ver.zero.arr 44)) := (Below.refl _ _).alloc (Nat.le_refl _) _
  have c1 := c.below ab
  have hh := has_any c1 k (by omega) (by omega)
  rw [decide_eq_true (by omega)] at hh
  have d0 := c1.at_.c0
  have d1 := c1.page hp
  have hvs := c.vsok hp
  have HV : Hid (VsOk m.last p.vs) := hvs
  have HVER : Hid (∀ (i : Nat) (v : Ver), p.vs[i]? = some v → ∀ j u, v.cells[j]? = some u → (w.alloc (.cells Ver.zero.arr 44)).cell? ((⟨p.b, i * 65, none⟩ : Addr).add j) = some u) := fun i v hv => c1.ver hp hv
  have hlen : 1 ≤ p.vs.length := by obtain ⟨v, r, e, _⟩ := hvs.first; rw [e]; simp
  have hlen2 : p.vs.length ≤ 4294967296 := by have h1 := hvs.len; have h2 := c.ok.hi; have h3 := c.ok.mx; simp only [M.abs] at h2 h3; omega
  have HVS : Hid (Ver.zero.arr.size = 65) := vz
  have fo := Ver.zero.one
  unfold Pg.val at d1
  obtain ⟨n, HN⟩ : ∃ n, Hid (m.ps.length = n) := ⟨_, rfl⟩
  obtain ⟨ll, HLL⟩ : ∃ ll, Hid (p.vs.length = ll) := ⟨_, rfl⟩
  rw [HN.out] at d0 hkl hn
  rw [HLL.out] at d1 hlen hlen2
  generalize Ver.zero.arr = Z at hz r0 ab hh HVER HVS fo d0 d1 ⊢
  clear c1 c hvs
  have hkn : (k : Int) < (n : Int) := by omega
  have hw1 : IntKind.i64.wrap ((ll : Int) - 1) = ((ll - 1 : Nat) : Int) := by rw [IntKind.wrap_i64]; omega
  go_enter Try.func16, Try.ntmps16
  go_upto_region 1 with fail
  generalize w.alloc (.cells Z 44) = W at r0 ab hh HVER d0 d1 ⊢
  go_upto_region 5 with (first
    | (go_at_call 24; refine hh.mono ?_; clear hh; rintro e wb ⟨he, hww⟩; rw [hww]; clear hww wb; obtain rfl := he))
  go_loopw [8] (fun i wr => ∃ j : Nat, i = .int .i64 j ∧ j < ll ∧ wr = W ∧ Hid (∀ (i : Nat) (u : Ver), j < i → p.vs[i]? = some u → ts < u.ts)) (fun i _ => (intOf i).toNat)
  case atStart => exact ⟨ll - 1, by rfl, by omega, rfl, fun i u hi hu => by have := (List.getElem?_eq_some_iff.1 hu).1; rw [HLL.out] at this; omega⟩
  case round =>
    obtain ⟨j, rfl, hj, rfl, HJ⟩ := hrel
    obtain ⟨v, hv⟩ : ∃ v, p.vs[j]? = some v := ⟨p.vs[j]'(by rw [HLL.out]; exact hj), List.getElem?_eq_getElem (by rw [HLL.out]; exact hj)⟩
    have hjl : (j : Int) < (ll : Int) := by omega
    have hcv := HVER.out j v hv
    have e0 := hcv 0 (.int .u32 v.ts) rfl
    rw [Addr.add_mid, Nat.add_zero] at e0
    by_cases hgt : v.ts > ts
    · have hj0 : 0 < j := by
        rcases Nat.eq_zero_or_pos j with e | e
        · subst e
          obtain ⟨u, r, eu, hu⟩ := HV.out.first
          rw [eu] at hv
          simp at hv
          subst hv
          omega
        · exact e
      have hw2 : IntKind.i64.wrap ((j : Int) - 1) = ((j - 1 : Nat) : Int) := by rw [IntKind.wrap_i64]; omega
      have HJ2 : Hid (∀ (i : Nat) (u : Ver), j - 1 < i → p.vs[i]? = some u → ts < u.ts) := fun i u hi hu => by
        by_cases e : i = j
        · subst e
          rw [hv] at hu
          cases hu
          exact hgt
        · exact HJ.out i u (by omega) hu
      clear HJ hv hcv
      go_wp2
      go_roundw
      case rel => exact ⟨j - 1, rfl, by omega, by first | rfl | trivial, HJ2⟩
      case measure => simp only [intOf]; omega
    · have HA : Hid (atV p.vs ts = v) := atV_is hv (by omega) HJ.out
      have hok := (HV.out.ok v (List.mem_of_getElem? hv)).1
      have HVL : Hid (v.cells.length = 65) := Ver.cells_length hok
      have HVA : Hid (v.arr.size = 65) := Ver.arr_size hok
      have hone := v.one
      have HAR : Hid (v.cells.toArray = v.arr) := rfl
      clear hok HJ hv
      obtain ⟨A0, HA0⟩ : ∃ A0, Hid (w.heap.size = A0) := ⟨_, rfl⟩
      rw [HA0.out] at r0 ⊢
      have r1 : Row (wr.setRow A0 v.arr) A0 v.arr 44 := r0.set _
      have ab1 : Below w.heap.size w (wr.setRow A0 v.arr) := below_setRow ab (by rw [HA0.out]; exact Nat.le_refl _) _
      have tl : Hid (1 = 1) := rfl
      have ts' : Hid (1 = 1) := rfl
      go_wp2_with (first
        | (have hh := tl; clear hh tl; refine wpList_load_any rfl 44 (.tmp 35) rfl ⟨p.b, j * 65, none⟩ rfl v.cells _ hcv Try.underlying44 rfl (by rw [size44, HVL.out]) ?_; rw [HAR.out])
        | (have hh := ts'; clear hh ts'; refine store_cells rfl 44 (.tmp 6) (.tmp 36) rfl A0 v.arr rfl rfl 44 _ r0 65 size44 HVS.out HVA.out hone ?_))
      rw [HA.out]

      refine bodyPost_ret (v := .agg v.arr) ?_ rfl ⟨rfl, ab1⟩
      exact ret_cell (fn := Try.f16) rfl _ _ A0 44 v.arr _ rfl r1 Try.underlying44 rfl (by rw [size44, HVA.out])
end Go.Proofs.Ytpncmbkklkfmnaa
