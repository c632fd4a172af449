/-
  Proved here: page.PutData, page.LSN, page.GetData: a data page's payload, and what a payload holds, if what was read of it makes it again. Plain facts: what stays of a cache where a frame, or its log and its disk, turn.
-/
import Derived.Test.YtehogiondcpbcaaJq18
import Derived.Test.YtehogiondcpbcaaJq16
import Derived.Test.YtehogiondcpbcaaJq17
import Derived.Test.YtehogiondcpbcaaJq08
namespace Go.Proofs.Ytehogiondcpbcaa
open Go.ChangeShapes Go.WideShapes Go.ChangeAt Go.RowKit
set_option linter.unusedVariables false
set_option linter.unusedSimpArgs false
set_option maxRecDepth 20000
structure D where
  lsn : Int
  ts : Int
  page : Int
  slot : Int
  body : List Int
def D.zero : D := ⟨0, 0, 0, 0, zs 64⟩
def D.arr (d : D) : Array Value := (.int .u64 d.lsn :: .int .u32 d.ts :: .int .u16 d.page :: .int .u8 d.slot :: d.body.map (Value.int .u8)).toArray
structure D.Ok (d : D) : Prop where
  lsn : 0 ≤ d.lsn ∧ d.lsn ≤ 18446744073709551615
  ts : 0 ≤ d.ts ∧ d.ts ≤ 4294967295
  page : 0 ≤ d.page ∧ d.page ≤ 65535
  slot : 0 ≤ d.slot ∧ d.slot ≤ 255
  len : d.body.length = 64
  bytes : Bytes d.body
theorem D.zero_ok : D.zero.Ok := ⟨by decide, by decide, by decide, by decide, zs_length _, zs_bytes _⟩
theorem D.arr_size (d : D) (h : d.body.length = 64) : d.arr.size = 68 := by simp [D.arr, h]
theorem D.arr_one (d : D) : d.arr.all (·.oneCell') = true := by simp [D.arr, Value.oneCell']
theorem D.at0 (d : D) : d.arr[0]? = some (.int .u64 d.lsn) := by simp [D.arr]
theorem D.at1 (d : D) : d.arr[1]? = some (.int .u32 d.ts) := by simp [D.arr]
theorem D.at2 (d : D) : d.arr[2]? = some (.int .u16 d.page) := by simp [D.arr]
theorem D.at3 (d : D) : d.arr[3]? = some (.int .u8 d.slot) := by simp [D.arr]
theorem D.at4 (d : D) (i : Nat) (h : i < d.body.length) : d.arr[4 + i]? = some (.int .u8 (d.body.getD i 0)) := by
  rw [Nat.add_comm]
  simp [D.arr, List.getD, h]
theorem D.str {w : World} {g : Nat} {d : D} {t : TypeId} (h : Row w g d.arr t) (hl : d.body.length = 64) :
    (Go.convert 81 9 (.slice (some ⟨g, 4, none⟩) 64 64)).run Try.prog w = .ok (.string (strOfNums d.body)) w := by
  refine run_convert_bytes_arg (P := Try.prog) w 81 5 Try.underlying81 Try.underlying5 g 4 64 64 d.body hl ?_ 9 Try.underlying9
  intro i hi
  rw [cell_of_row w g (4 + i) _ _ _ h, D.at4 d i (by omega)]
theorem size109 : (Try.prog.info? 109).map (·.size) = some 68 := by kernel_rfl
theorem built109 : (Try.prog.built 109 []) = some D.zero.arr := by kernel_rfl
theorem zero109 (w : World) : (zeroValue 109).run Try.prog w = .ok (.agg D.zero.arr) w := (zero_of_info (P := Try.prog) (t := 109) (v := .agg D.zero.arr) (n := 68) (by kernel_rfl)).1 w
theorem D.inj {a b : D} (h : a.arr = b.arr) : a = b := by
  cases a; cases b
  simp [D.arr] at h
  obtain ⟨rfl, rfl, rfl, rfl, h⟩ := h
  have : ∀ (x y : List Int), x.map (Value.int .u8) = y.map (Value.int .u8) → x = y := by
    intro x
    induction x with
    | nil => intro y h; cases y <;> simp_all
    | cons a r ih => intro y h; cases y with
      | nil => simp at h
      | cons b t => simp at h; rw [h.1, ih t (by simpa using h.2)]
  rw [this _ _ h]
def dataT (d : D) : List Int := low d.ts 4 ++ refT d.page d.slot ++ d.body
theorem dataT_length (d : D) (h : d.body.length = 64) : (dataT d).length = 71 := by simp [dataT, low_length, refT_length, h]
theorem dataT_bytes (d : D) (h : Bytes d.body) : Bytes (dataT d) := ((low_bytes _ _).append (refT_bytes _ _)).append h
def putD (no : Int) (d : D) : List Int := payT 1 no d.lsn (dataT d)
theorem putD_length (no : Int) (d : D) (h : d.body.length = 64) : (putD no d).length = 224 := payT_length _ _ _ _ (by rw [dataT_length d h]; omega)
theorem putD_bytes (no : Int) (d : D) (h : Bytes d.body) : Bytes (putD no d) := payT_bytes _ _ _ _ (dataT_bytes d h)
set_option maxHeartbeats 1000000 in
theorem putData_any (no : Int) (d : D) (w : World) (hno : 0 ≤ no ∧ no ≤ 65535) (hd : d.Ok) :
    Calls Try.prog 44 #[.int .u16 no, .agg d.arr] w fun e w' => e = .returned (.agg (bs (putD no d))) ∧ Below w.heap.size w w' := by
  have hz := zero34
  have r0 : Row ((w.alloc (.cells d.arr 109)).alloc (.cells (bs (zs 224)) 34)) w.heap.size d.arr 109 := (Row.new _ _ _).alloc _
  have r1 : Row ((w.alloc (.cells d.arr 109)).alloc (.cells (bs (zs 224)) 34)) (w.heap.size + 1) (bs (zs 224)) 34 := by have := Row.new (w.alloc (.cells d.arr 109)) (bs (zs 224)) 34; simpa using this
  have ab : Below w.heap.size w ((w.alloc (.cells d.arr 109)).alloc (.cells (bs (zs 224)) 34)) := ((Below.refl _ _).alloc (Nat.le_refl _) _).alloc (by simp) _
  have hbs := fun (w' : World) (h : Row w' w.heap.size d.arr 109) => D.str h hd.len
  have h0 := fun (w' : World) (h : Row w' w.heap.size d.arr 109) => row_at h 0 _ d.at0
  have h1 := fun (w' : World) (h : Row w' w.heap.size d.arr 109) => row_at h 1 _ d.at1
  have h2 := fun (w' : World) (h : Row w' w.heap.size d.arr 109) => row_at h 2 _ d.at2
  have h3 := fun (w' : World) (h : Row w' w.heap.size d.arr 109) => row_at h 3 _ d.at3
  have H0 : Hid _ := h0
  have H1 : Hid _ := h1
  have H2 : Hid _ := h2
  have H3 : Hid _ := h3
  have HB : Hid _ := hbs
  clear h0 h1 h2 h3 hbs
  have hlen := putD_length no d hd.len
  have hp := payload_any 1 no d.lsn (dataT d)
  obtain ⟨hlsn, hts, hpg, hsl, hbl, hby⟩ := hd
  have htl := dataT_length d hbl
  have htb := dataT_bytes d hby
  have HP : Hid _ := fun w => hp w (by omega) hno hlsn (by omega) htb
  clear hp
  have P1 : Hid _ := put_at d.ts 4 _ rfl (by omega) (by omega) (by decide)
  have P2 : Hid _ := fun w => ref_any d.page d.slot w hpg hsl
  have e1 : IntKind.u64.wrap d.ts = d.ts := by rw [IntKind.wrap_u64]; omega
  obtain ⟨A1, HA1⟩ : ∃ A, Hid (low d.ts 4 = A) := ⟨_, rfl⟩
  obtain ⟨A2, HA2⟩ : ∃ A, Hid (refT d.page d.slot = A) := ⟨_, rfl⟩
  obtain ⟨A3, HA3⟩ : ∃ A, Hid (A1 ++ A2 = A) := ⟨_, rfl⟩
  obtain ⟨T, HT⟩ : ∃ A, Hid (dataT d = A) := ⟨_, rfl⟩
  obtain ⟨R, HR⟩ : ∃ A, Hid (putD no d = A) := ⟨_, rfl⟩
  have HR' : Hid (payT 1 no d.lsn T = R) := by show _ = _; rw [← HR.out, ← HT.out]; rfl
  have hz1 : (strOfNums A1).size = 4 := by rw [strOfNums_size, ← HA1.out, low_length]
  have hz2 : (strOfNums A2).size = 3 := by rw [strOfNums_size, ← HA2.out, refT_length]
  have ha1 : strOfNums A1 ++ strOfNums A2 = strOfNums A3 := by rw [tx_app, HA3.out]
  have hz3 : (strOfNums A3).size = 7 := by rw [← ha1, ByteArray.size_append, hz1, hz2]
  have hz4 : (strOfNums d.body).size = 64 := by rw [strOfNums_size, hbl]
  have ha2 : strOfNums A3 ++ strOfNums d.body = strOfNums T := by rw [tx_app, ← HA3.out, ← HA1.out, ← HA2.out, ← HT.out]; rfl
  rw [HA1.out] at P1
  rw [HA2.out] at P2
  rw [HT.out, HR'.out] at HP
  rw [HR.out] at hlen ⊢
  generalize harr : d.arr = X at r0 r1 ab H0 H1 H2 H3 HB ⊢
  have HX : Hid _ := harr
  clear harr htl htb
  have hX : X.size = 68 := by rw [← HX.out]; exact D.arr_size d hbl
  go_enter Try.func44, Try.ntmps44
  go_upto_region 1 with fail
  generalize (w.alloc (.cells X 109)).alloc (.cells (bs (zs 224)) 34) = w1 at r0 r1 ab ⊢
  refine wp_region_held_drew (S := fun w' => Row w' w.heap.size X 109 ∧ Row w' (w.heap.size + 1) (bs (zs 224)) 34 ∧ Below w.heap.size w w') (by kernel_rfl) ⟨r0, r1, ab.drew⟩ fun hS => ?_
  clear r0 r1 ab
  refine tkI (i := 0) (v := .pointer (some ⟨w.heap.size, 1, none⟩)) rfl (Or.inl ⟨by rfl, fun w _ => by go_simp⟩) hS ?_
  try simp only [Act.put, nz]
  refine tkI (i := 1) (v := .int .u32 d.ts) rfl (Or.inl ⟨by rfl, fun w h => by have c := H1.out w h.1; go_simp⟩) hS ?_
  try simp only [Act.put, nz]
  refine tkI (i := 2) (v := .int .u64 d.ts) rfl (Or.inl ⟨by rfl, fun w _ => by go_simp⟩) hS ?_
  try simp only [Act.put, nz]
  refine tkI (i := 4) (v := .pointer (some ⟨w.heap.size, 2, none⟩)) rfl (Or.inl ⟨by rfl, fun w _ => by go_simp⟩) hS ?_
  try simp only [Act.put, nz]
  refine tkI (i := 5) (v := .agg #[.int .u16 d.page, .int .u8 d.slot]) rfl (Or.inl ⟨by rfl, fun w h => by have c := H2.out w h.1; have c3 := H3.out w h.1; go_simp⟩) hS ?_
  try simp only [Act.put, nz]
  refine tkI (i := 8) (v := .pointer (some ⟨w.heap.size, 4, none⟩)) rfl (Or.inl ⟨by rfl, fun w _ => by go_simp⟩) hS ?_
  try simp only [Act.put, nz]
  refine tkI (i := 9) (v := .slice (some ⟨w.heap.size, 4, none⟩) 64 64) rfl (Or.inl ⟨by rfl, fun w _ => by go_simp⟩) hS ?_
  try simp only [Act.put, nz]
  refine tkI (i := 10) (v := .string (strOfNums d.body)) rfl (Or.inl ⟨by rfl, fun w h => by have c := HB.out w h.1; go_simp⟩) hS ?_
  try simp only [Act.put, nz]
  refine wpAnyH_ready (rs := [3]) (by kernel_rfl) (by simp) ?_
  refine AllReadyH.cons rfl (fun K hK => ?_) AllReadyH.nil
  go_simp
  go_at_call 72
  refine (P1.out _).mono ?_
  rintro e wc ⟨rfl, hcb⟩
  refine hK.out _ _ (⟨hS.1.below hcb hS.1.lt, hS.2.1.below hcb hS.2.1.lt, hS.2.2.trans (hcb.mono hS.2.2.size)⟩) fun hS => ?_
  try simp only [Act.put, nz]
  refine wpAnyH_ready (rs := [6]) (by kernel_rfl) (by simp) ?_
  refine AllReadyH.cons rfl (fun K hK => ?_) AllReadyH.nil
  go_simp
  go_at_call 75
  refine (P2.out _).mono ?_
  rintro e wc ⟨rfl, hcb⟩
  refine hK.out _ _ (⟨hS.1.below hcb hS.1.lt, hS.2.1.below hcb hS.2.1.lt, hS.2.2.trans (hcb.mono hS.2.2.size)⟩) fun hS => ?_
  try simp only [Act.put, nz]
  refine tkI (i := 7) (v := .string (strOfNums A3)) rfl (Or.inl ⟨by rfl, fun w _ => by go_simp⟩) hS ?_
  try simp only [Act.put, nz]
  refine tkI (i := 11) (v := .string (strOfNums T)) rfl (Or.inl ⟨by rfl, fun w _ => by go_simp⟩) hS ?_
  try simp only [Act.put, nz]
  refine tkI (i := 12) (v := .string (strOfNums T)) rfl (Or.inl ⟨by rfl, fun w _ => by go_simp⟩) hS ?_
  try simp only [Act.put, nz]
  refine wpAnyH_done (by kernel_rfl) ?_ _
  have c0 := H0.out _ hS.1
  have y1 := fun (w' : World) (h : Below wc.heap.size wc w') => hS.2.1.below h hS.2.1.lt
  have hs2 := hS.2.2
  have HY1 : Hid _ := y1
  clear y1 hS hcb
  go_wp2_with (first
    | (go_at_call 74; refine (HP.out _).mono ?_; clear HP; rintro e w3 ⟨rfl, h3⟩)
    | (refine store_row rfl 34 (.tmp 4) (.tmp 22) rfl (w.heap.size + 1) R rfl rfl 34 _ (HY1.out _ h3) 224 size34 (by rw [bs_size, zs_length]) hlen ?_))
  refine bodyPost_ret (v := .agg (bs R)) ?_ rfl ⟨rfl, below_setRow (hs2.trans (h3.mono hs2.size)) (by omega) _⟩
  exact ret_row (fn := Try.f44) rfl _ _ (w.heap.size + 1) 34 (bs R) 224 5 rfl ((HY1.out _ h3).set _) Try.underlying34 size34 (by rw [bs_size, hlen])
theorem lsn_any (p : List Int) (w : World) (hp : p.length = 224) :
    Calls Try.prog 12 #[.agg (bs p)] w fun e w' => e = .returned (.int .u64 (getN (strOfNums p) 7 8)) ∧ Below w.heap.size w w' := by
  have r0 : Row (w.alloc (.cells (bs p) 34)) w.heap.size (bs p) 34 := Row.new _ _ _
  have ab : Below w.heap.size w (w.alloc (.cells (bs p) 34)) := (Below.refl _ _).alloc (Nat.le_refl _) _
  have hs := str_row r0 224 224 hp
  have HG : Hid _ := get_all (strOfNums p) 7 8 (by rw [strOfNums_size, hp]; unfold maxLen; omega) (by decide) (by decide)
  generalize strOfNums p = S at hs HG ⊢
  go_enter Try.func12, Try.ntmps12
  go_wp2_with (go_at_call 42; refine (HG.out _).mono ?_; rintro e w3 ⟨rfl, rfl⟩)
  go_ret
  exact ⟨rfl, ab⟩
theorem build_one {P : Program} {ops : Array Oper} {rest : List Oper} {o : Oper} {a : Act} {w : World} {Q : Exit → Act → World → Prop} (hg : o.guard = none) (t : TypeId) (x : Operand) (ho : o.op = .build t #[(0, x)]) (u : Value) (hx : a.eval x = u) (cs : Array Value)
    (hb : P.built t [(0, u)] = some cs) (h : wpList P ops Q rest (a.put o.dst (.agg cs)) w) : wpList P ops Q (o :: rest) a w :=
  wpList_build hg t #[(0, x)] ho (by simp [hx, hb]) (by simpa [hx, hb] using h)
theorem built30one (v : Int) : (Try.prog.built 109 [(0, .int .u64 v)]) = some (D.arr ⟨v, 0, 0, 0, zs 64⟩) := by kernel_rfl
theorem zero179 (w : World) : (zeroValue 179).run Try.prog w = .ok (.agg #[.string ByteArray.empty, .int .i64 0]) w := (zero_of_info (P := Try.prog) (t := 179) (v := .agg #[.string ByteArray.empty, .int .i64 0]) (n := 2) (by kernel_rfl)).1 w
theorem D.set1 (d : D) (v : Int) : d.arr.setIfInBounds 1 (.int .u32 v) = ({ d with ts := v } : D).arr := by simp [D.arr]
theorem D.set23 (d : D) (p s : Int) : (d.arr.setIfInBounds 2 (.int .u16 p)).setIfInBounds 3 (.int .u8 s) = ({ d with page := p, slot := s } : D).arr := by simp [D.arr]
theorem D.setB (d : D) (l : List Int) (h : d.body.length = 64) (hl : l.length = 64) : laidIn d.arr 4 l = ({ d with body := l } : D).arr := by
  unfold laidIn D.arr
  rw [hl]
  have e : (List.map (Value.int .u8) d.body).drop 64 = [] := List.drop_of_length_le (by simp [h])
  simp [bs, e]
def dOf (p : List Int) : D := ⟨getN (strOfNums p) 7 8, getN (strOfNums p) 15 4, getN (strOfNums p) 19 2, getN (strOfNums p) 21 1, (p.drop 22).take 64⟩
theorem dOf_ok (p : List Int) (hp : p.length = 224) (hb : Bytes p) : (dOf p).Ok := by
  have f1 := getN_fits (strOfNums p) 7 8
  have f2 := getN_fits (strOfNums p) 15 4
  have f3 := getN_fits (strOfNums p) 19 2
  have f4 := getN_fits (strOfNums p) 21 1
  exact ⟨⟨f1.1, by have := f1.2; simp only [dOf]; omega⟩, ⟨f2.1, by have := f2.2; simp only [dOf]; omega⟩, ⟨f3.1, by have := f3.2; simp only [dOf]; omega⟩, ⟨f4.1, by have := f4.2; simp only [dOf]; omega⟩, by simp [dOf]; omega, hb.sub fun y hy => List.mem_of_mem_drop (List.mem_of_mem_take hy)⟩
def isD (no : Int) (p : List Int) : Bool := decide (putD no (dOf p) = p)
def gotD (no : Int) (p : List Int) : D := if isD no p then dOf p else D.zero
def errD (no : Int) (p : List Int) : Int := if isD no p then 0 else 2
set_option maxHeartbeats 4000000 in
theorem getData_any (no : Int) (p : List Int) (w : World) (hno : 0 ≤ no ∧ no ≤ 65535) (hp : p.length = 224) (hb : Bytes p) :
    Calls Try.prog 83 #[.int .u16 no, .agg (bs p)] w fun e w' => e = .returned (.tuple #[.agg (gotD no p).arr, .int .i64 (errD no p)]) ∧ Below w.heap.size w w' := by
  have hz1 := zero109
  have hz2 := zero179
  have hok := dOf_ok p hp hb
  have r0 : Row ((w.alloc (.cells (bs p) 34)).alloc (.cells D.zero.arr 109)) w.heap.size (bs p) 34 := (Row.new _ _ _).alloc _
  have r1 : Row ((w.alloc (.cells (bs p) 34)).alloc (.cells D.zero.arr 109)) (w.heap.size + 1) D.zero.arr 109 := by have := Row.new (w.alloc (.cells (bs p) 34)) D.zero.arr 109; simpa using this
  have ab : Below w.heap.size w ((w.alloc (.cells (bs p) 34)).alloc (.cells D.zero.arr 109)) := ((Below.refl _ _).alloc (Nat.le_refl _) _).alloc (by simp) _
  have hsz : Hid (((w.alloc (.cells (bs p) 34)).alloc (.cells D.zero.arr 109)).heap.size = w.heap.size + 2) := by simp [Hid]
  have HLSN : Hid _ := fun w => lsn_any p w hp
  have hsl : (strOfNums p).size ≤ maxLen := by rw [strOfNums_size, hp]; unfold maxLen; omega
  have HBY : Hid _ := fun g w h => bytes_any g p 22 64 w h (by omega) (by omega) (by omega)
  have HPUT : Hid _ := fun w => putData_any no (dOf p) w hno hok
  have heq := equal34 (putD no (dOf p)) p (putD_length _ _ hok.len) hp
  obtain ⟨S, HS⟩ : ∃ S, Hid (strOfNums p = S) := ⟨_, rfl⟩
  have HN4 : Hid _ := fun g w h => number_any g (strOfNums p) 15 4 w h hsl (by decide) (by omega)
  have HRF : Hid _ := fun g w h => rref_any g (strOfNums p) 19 w h hsl (by omega)
  obtain ⟨v1, HV1⟩ : ∃ v, Hid (getN (strOfNums p) 7 8 = v) := ⟨_, rfl⟩
  obtain ⟨v2, HV2⟩ : ∃ v, Hid (getN (strOfNums p) 15 4 = v) := ⟨_, rfl⟩
  obtain ⟨v3, HV3⟩ : ∃ v, Hid (getN (strOfNums p) 19 2 = v) := ⟨_, rfl⟩
  obtain ⟨v4, HV4⟩ : ∃ v, Hid (getN (strOfNums p) (19 + 2) 1 = v) := ⟨_, rfl⟩
  obtain ⟨B, HB⟩ : ∃ v, Hid ((p.drop 22).take 64 = v) := ⟨_, rfl⟩
  have f2 := getN_fits (strOfNums p) 15 4
  have hBl : B.length = 64 := by rw [← HB.out]; exact hok.len
  have hBb : Bytes B := by rw [← HB.out]; exact hok.bytes
  have HD : Hid (dOf p = ⟨v1, v2, v3, v4, B⟩) := by show _ = _; rw [← HV1.out, ← HV2.out, ← HV3.out, ← HV4.out, ← HB.out]; rfl
  have hcnv := fun w (h : Row w w.heap.size (bs p) 34) => str_row h 224 224 hp
  have hc0 := str_row r0 224 224 hp
  clear hcnv
  rw [HV1.out] at HLSN
  rw [HV2.out] at HN4 f2
  rw [HV3.out, HV4.out] at HRF
  rw [HB.out] at HBY
  have e2 : IntKind.u32.wrap v2 = v2 := by rw [IntKind.wrap_u32]; omega
  have e2' : v2 % 4294967296 = v2 := by omega
  rw [HS.out] at HN4 HRF HBY hc0
  have hpb : (bs p).size = 224 := by rw [bs_size, hp]
  go_enter Try.func83, Try.ntmps83
  go_upto_region 1 with fail
  generalize (w.alloc (.cells (bs p) 34)).alloc (.cells D.zero.arr 109) = w1 at r0 r1 ab hsz hc0 ⊢
  have q0 := r0.alloc (.cells #[.string ByteArray.empty, .int .i64 0] 179)
  have q1 := r1.alloc (.cells #[.string ByteArray.empty, .int .i64 0] 179)
  have q2 : Row (w1.alloc (.cells #[.string ByteArray.empty, .int .i64 0] 179)) (w.heap.size + 2) #[.string ByteArray.empty, .int .i64 0] 179 := by rw [← hsz.out]; exact Row.new _ _ _
  have qb : Below w.heap.size w (w1.alloc (.cells #[.string ByteArray.empty, .int .i64 0] 179)) := ab.alloc (by rw [hsz.out]; omega) _
  go_upto_region 2 with (first
    | (refine store_cells rfl 179 (.tmp 6) (.tmp 10) rfl (w.heap.size + 2) #[.string S, .int .i64 15] (by rw [← hsz.out]; rfl) rfl 179 _ q2 2 size179 rfl rfl (by simp [Value.oneCell']) ?_))
  have a0 := q0.other (g := w.heap.size + 2) (by omega) #[.string S, .int .i64 15]
  have a1 := q1.other (g := w.heap.size + 2) (by omega) #[.string S, .int .i64 15]
  have a2 := q2.set #[.string S, .int .i64 15]
  have abb := below_setRow qb (show w.heap.size ≤ w.heap.size + 2 by omega) #[.string S, .int .i64 15]
  clear q0 q1 q2 qb r0 r1 ab hc0
  rw [hsz.out]
  generalize (w1.alloc (.cells #[.string ByteArray.empty, .int .i64 0] 179)).setRow (w.heap.size + 2) #[.string S, .int .i64 15] = w2 at a0 a1 a2 abb ⊢
  have hl2 := a2.lt
  go_upto_region 3 with (first
    | (refine load_row rfl 34 (.tmp 3) rfl w.heap.size rfl 34 (bs p) a0 224 5 Try.underlying34 size34 hpb ?_)
    | (go_at_call 12; refine (HLSN.out _).mono ?_; clear HLSN; rintro e w3 ⟨rfl, h3⟩
       have b0 := (a0.below h3 a0.lt).alloc (.cells D.zero.arr 109)
       have b1 := (a1.below h3 a1.lt).alloc (.cells D.zero.arr 109)
       have b2 := (a2.below h3 a2.lt).alloc (.cells D.zero.arr 109)
       have b3 : Row (w3.alloc (.cells D.zero.arr 109)) w3.heap.size D.zero.arr 109 := Row.new _ _ _
       have bb0 : Below w.heap.size w w3 := abb.trans (h3.mono abb.size)
       have bb : Below w.heap.size w (w3.alloc (.cells D.zero.arr 109)) := bb0.alloc bb0.size _
       have hl3 : w.heap.size + 2 < w3.heap.size := (a2.below h3 a2.lt).lt)
    | (refine build_one rfl 109 (.tmp 12) rfl _ rfl _ (built30one v1) ?_)
    | (refine store_cells rfl 109 (.tmp 7) (.tmp 13) rfl w3.heap.size (D.arr ⟨v1, 0, 0, 0, zs 64⟩) rfl rfl 109 _ b3 68 size109 rfl rfl (D.arr_one _) ?_))
  have c0 := b0.other (g := w3.heap.size) (by omega) (D.arr ⟨v1, 0, 0, 0, zs 64⟩)
  have c1 := b1.other (g := w3.heap.size) (by omega) (D.arr ⟨v1, 0, 0, 0, zs 64⟩)
  have c2 := b2.other (g := w3.heap.size) (by omega) (D.arr ⟨v1, 0, 0, 0, zs 64⟩)
  have c3 := b3.set (D.arr ⟨v1, 0, 0, 0, zs 64⟩)
  have cb := below_setRow bb bb0.size (D.arr ⟨v1, 0, 0, 0, zs 64⟩)
  have hgd := bb0.size
  clear a0 a1 a2 abb b0 b1 b2 b3 bb bb0 h3 hl2 hsz
  generalize (w3.alloc (.cells D.zero.arr 109)).setRow w3.heap.size (D.arr ⟨v1, 0, 0, 0, zs 64⟩) = w4 at c0 c1 c2 c3 cb ⊢
  generalize w3.heap.size = gd at c3 hl3 hgd ⊢
  go_upto_region 4 with (go_at_call 97; refine (HN4.out _ _ c2).mono ?_; clear HN4; rintro e w5 ⟨rfl, k2, o5⟩
                         have k3 : Row w5 gd (D.arr ⟨v1, 0, 0, 0, zs 64⟩) 109 := c3.off o5 (by omega)
                         have kc := row_at k3 1 _ (D.at1 _)
                         have kf := row_frozen k3 1)
  have k0 : Row w5 w.heap.size (bs p) 34 := c0.off o5 (by omega)
  have k1 : Row w5 (w.heap.size + 1) D.zero.arr 109 := c1.off o5 (by omega)
  have kb : Below w.heap.size w w5 := cb.trans (o5.below cb.size (fun k q => by omega))
  clear c0 c1 c2 c3 cb o5
  have l0 := row_setCell_other k0 (show w.heap.size ≠ gd by omega) 1 (.int .u32 v2)
  have l1 := row_setCell_other k1 (show w.heap.size + 1 ≠ gd by omega) 1 (.int .u32 v2)
  have l2 := row_setCell_other k2 (show w.heap.size + 2 ≠ gd by omega) 1 (.int .u32 v2)
  have l3 := row_set k3 1 (.int .u32 v2)
  rw [D.set1] at l3
  have lb := kb.setCell (p := ⟨gd, 1, none⟩) (show w.heap.size ≤ gd by omega) (.int .u32 v2)
  clear k0 k1 k2 k3 kb kc kf
  generalize w5.setCell ⟨gd, 1, none⟩ (.int .u32 v2) = w6 at l0 l1 l2 l3 lb ⊢
  go_upto_region 5 with (go_at_call 99; refine (HRF.out _ _ l2).mono ?_; clear HRF; rintro e w7 ⟨rfl, k2, o7⟩
                         have k3 : Row w7 gd (D.arr ⟨v1, v2, 0, 0, zs 64⟩) 109 := l3.off o7 (by omega)
                         have kc := row_at k3 2 _ (D.at2 _)
                         have kf := row_frozen k3 2
                         have kd := row_at k3 3 _ (D.at3 _)
                         have kg := row_frozen k3 3)
  have k0 : Row w7 w.heap.size (bs p) 34 := l0.off o7 (by omega)
  have k1 : Row w7 (w.heap.size + 1) D.zero.arr 109 := l1.off o7 (by omega)
  have kb : Below w.heap.size w w7 := lb.trans (o7.below lb.size (fun k q => by omega))
  clear l0 l1 l2 l3 lb o7
  have l0 := row_setCell_other (row_setCell_other k0 (show w.heap.size ≠ gd by omega) 2 (.int .u16 v3)) (show w.heap.size ≠ gd by omega) 3 (.int .u8 v4)
  have l1 := row_setCell_other (row_setCell_other k1 (show w.heap.size + 1 ≠ gd by omega) 2 (.int .u16 v3)) (show w.heap.size + 1 ≠ gd by omega) 3 (.int .u8 v4)
  have l2 := row_setCell_other (row_setCell_other k2 (show w.heap.size + 2 ≠ gd by omega) 2 (.int .u16 v3)) (show w.heap.size + 2 ≠ gd by omega) 3 (.int .u8 v4)
  have l3 := row_set (row_set k3 2 (.int .u16 v3)) 3 (.int .u8 v4)
  rw [D.set23] at l3
  have lb := (kb.setCell (p := ⟨gd, 2, none⟩) (show w.heap.size ≤ gd by omega) (.int .u16 v3)).setCell (p := ⟨gd, 3, none⟩) (show w.heap.size ≤ gd by omega) (.int .u8 v4)
  clear k0 k1 k2 k3 kb kc kf kd kg
  generalize (w7.setCell ⟨gd, 2, none⟩ (.int .u16 v3)).setCell ⟨gd, 3, none⟩ (.int .u8 v4) = w8 at l0 l1 l2 l3 lb ⊢
  have l2 : Row w8.drew (w.heap.size + 2) #[.string S, .int .i64 (19 + 3 : Nat)] 179 := l2
  have l3 : Row w8.drew gd (D.arr ⟨v1, v2, v3, v4, zs 64⟩) 109 := l3
  refine wp_region_held_drew (S := fun w' => Row w' w.heap.size (bs p) 34 ∧ Row w' (w.heap.size + 1) D.zero.arr 109 ∧ Below w.heap.size w w') (by kernel_rfl) ⟨l0, l1, lb.drew⟩ fun hS => ?_
  clear l0 l1 lb
  refine tkI (i := 0) (v := .pointer (some ⟨gd, 4, none⟩)) rfl (Or.inl ⟨by rfl, fun w _ => by go_simp⟩) hS ?_
  try simp only [Act.put, nz]
  refine tkI (i := 1) (v := .slice (some ⟨gd, 4, none⟩) 64 64) rfl (Or.inl ⟨by rfl, fun w _ => by go_simp⟩) hS ?_
  try simp only [Act.put, nz]
  refine wpAnyH_ready (rs := [2]) (by kernel_rfl) (by simp) ?_
  refine AllReadyH.cons rfl (fun K hK => ?_) AllReadyH.nil
  go_simp
  go_at_call 100
  refine (HBY.out _ _ l2).mono ?_
  rintro e wc ⟨rfl, k2, o7⟩
  refine hK.out _ _ (⟨hS.1.off o7 (by omega), hS.2.1.off o7 (by omega), hS.2.2.trans (o7.below hS.2.2.size (fun k q => by omega))⟩) fun hS => ?_
  try simp only [Act.put, nz]
  have k3 : Row wc gd (D.arr ⟨v1, v2, v3, v4, zs 64⟩) 109 := l3.off o7 (by omega)
  clear l2 l3 k2 o7 HBY
  refine wpAnyH_ready (rs := [3]) (by kernel_rfl) (by simp) ?_
  refine AllReadyH.cons rfl (fun K hK => step_copy_text rfl (.tmp 20) (.tmp 21) 81 9 rfl 5 Try.underlying81 size5 gd 4 64 64 rfl B hBb rfl (D.arr ⟨v1, v2, v3, v4, zs 64⟩) 109 k3 (by omega) (by rw [hBl, D.arr_size _ (zs_length _)]; omega) 64 (by rw [hBl]; rfl) (hK.out _ _ ⟨hS.1.other (by omega) _, hS.2.1.other (by omega) _, below_setRow hS.2.2 (by omega) _⟩ fun hS => ?_)) AllReadyH.nil
  try simp only [Act.put, nz]
  have k4 := k3.set (laidIn (D.arr ⟨v1, v2, v3, v4, zs 64⟩) 4 B)
  rw [D.setB _ B (zs_length _) hBl] at k4 hS ⊢
  refine wpAnyH_done (by kernel_rfl) ?_ _
  clear k3
  have hDl : (D.arr ⟨v1, v2, v3, v4, B⟩).size = 68 := D.arr_size _ hBl
  rw [HD.out] at HPUT heq
  generalize wc.setRow gd (D.arr ({ (⟨v1, v2, v3, v4, zs 64⟩ : D) with body := B })) = w9 at k4 hS ⊢
  have HRES : Hid (isD no p = decide (putD no ⟨v1, v2, v3, v4, B⟩ = p)) := by show _ = _; unfold isD; rw [HD.out]
  obtain ⟨R, HR⟩ : ∃ R, Hid (putD no ⟨v1, v2, v3, v4, B⟩ = R) := ⟨_, rfl⟩
  rw [HR.out] at HPUT heq HRES
  obtain ⟨X, HX⟩ : ∃ R, Hid (D.arr ⟨v1, v2, v3, v4, B⟩ = R) := ⟨_, rfl⟩
  have k4 : Row w9 gd (D.arr ⟨v1, v2, v3, v4, B⟩) 109 := k4
  rw [HX.out] at HPUT hDl k4
  go_upto_region 6 with fail
  refine wp_region_held_drew (S := fun w' => (Row w' w.heap.size (bs p) 34 ∧ Row w' (w.heap.size + 1) D.zero.arr 109 ∧ Below w.heap.size w w') ∧ Row w' gd X 109) (by kernel_rfl) ⟨⟨hS.1, hS.2.1, hS.2.2.drew⟩, k4⟩ fun hS => ?_
  clear k4
  refine tkI (i := 0) (v := .int .u16 no) rfl (Or.inl ⟨by rfl, fun w _ => by go_simp⟩) hS ?_
  try simp only [Act.put, nz]
  refine tkI (i := 1) (v := .agg X) rfl (yields_cells (by rfl) 109 (.tmp 7) rfl gd rfl 109 X (fun w h => h.2) 68 Try.underlying109 rfl size109 hDl) hS ?_
  try simp only [Act.put, nz]
  refine tkI (i := 3) (v := .agg (bs p)) rfl (yields_row (by rfl) 34 (.tmp 3) rfl w.heap.size rfl 34 (bs p) (fun w h => h.1.1) 224 5 Try.underlying34 size34 hpb) hS ?_
  try simp only [Act.put, nz]
  refine wpAnyH_ready (rs := [2]) (by kernel_rfl) (by simp) ?_
  refine AllReadyH.cons rfl (fun K hK => ?_) AllReadyH.nil
  go_simp
  go_at_call 44
  refine (HPUT.out _).mono ?_
  rintro e wc ⟨rfl, hcb⟩
  refine hK.out _ _ (⟨⟨hS.1.1.below hcb hS.1.1.lt, hS.1.2.1.below hcb hS.1.2.1.lt, hS.1.2.2.trans (hcb.mono hS.1.2.2.size)⟩, hS.2.below hcb hS.2.lt⟩) fun hS => ?_
  try simp only [Act.put, nz]
  refine tkI (i := 4) (v := .bool (!decide (R = p))) rfl (yields_neq (by rfl) 34 34 (.tmp 25) (.tmp 26) rfl (bs R) (bs p) rfl rfl Try.eqGuardType34 (decide (R = p)) heq) hS ?_
  try simp only [Act.put, nz]
  refine wpAnyH_done (by kernel_rfl) ?_ _
  clear heq hcb HPUT
  by_cases hq : R = p
  · have hi : isD no p = true := by rw [HRES.out, decide_eq_true hq]
    have hgot : Hid ((gotD no p).arr = X) := by show _ = _; unfold gotD; rw [hi, if_pos rfl, HD.out, HX.out]
    have herr : Hid (errD no p = 0) := by show _ = _; unfold errD; rw [hi, if_pos rfl]
    rw [decide_eq_true hq]
    clear hq hi
    simp only [Bool.not_true]
    go_wp2_with (first
      | (refine load_cells rfl 109 (.tmp 7) rfl gd rfl 109 X hS.2 68 Try.underlying109 rfl size109 hDl ?_)
      | (refine store_cells rfl 109 (.tmp 4) (.tmp 29) rfl (w.heap.size + 1) X rfl rfl 109 _ hS.1.2.1 68 size109 (D.arr_size _ (zs_length _)) hDl (by rw [← HX.out]; exact D.arr_one _) ?_))
    refine bodyPost_ret (v := .tuple #[.agg X, .int .i64 0]) ?_ rfl ⟨by rw [hgot.out, herr.out], below_setRow hS.1.2.2 (by omega) _⟩
    exact ret_cell2 (fn := Try.f83) rfl _ _ (w.heap.size + 1) 109 X _ _ rfl rfl (hS.1.2.1.set _) Try.underlying109 rfl (by rw [hDl]; exact size109)
  · have hi : isD no p = false := by rw [HRES.out, decide_eq_false hq]
    have hgot : Hid ((gotD no p).arr = D.zero.arr) := by show _ = _; unfold gotD; rw [hi]; rfl
    have herr : Hid (errD no p = 2) := by show _ = _; unfold errD; rw [hi]; rfl
    rw [decide_eq_false hq]
    clear hq hi
    simp only [Bool.not_false]
    go_wp2_with (first
      | (refine build_none rfl 109 rfl _ built109 ?_)
      | (refine store_cells rfl 109 (.tmp 4) (.tmp 28) rfl (w.heap.size + 1) D.zero.arr rfl rfl 109 _ hS.1.2.1 68 size109 (D.arr_size _ (zs_length _)) (D.arr_size _ (zs_length _)) (D.arr_one _) ?_))
    refine bodyPost_ret (v := .tuple #[.agg D.zero.arr, .int .i64 2]) ?_ rfl ⟨by rw [hgot.out, herr.out], below_setRow hS.1.2.2 (by omega) _⟩
    exact ret_cell2 (fn := Try.f83) rfl _ _ (w.heap.size + 1) 109 D.zero.arr _ _ rfl rfl (hS.1.2.1.set _) Try.underlying109 rfl (by rw [D.arr_size _ (zs_length _)]; exact size109)
theorem yields_any {P : Program} {ops : Array Oper} {S : World → Prop} {o : Oper} {a : Act} (hw : Region.wanted o (yielded ops a.tmps) = true) (ty : TypeId) (x : Operand) (ho : o.op = .load ty x)
    (p : Addr) (hx : a.eval x = .pointer (some p)) (cs : List Value) (d : TypeDesc) (hc : ∀ w, S w → ∀ j v, cs[j]? = some v → w.cell? (p.add j) = some v)
    (hu : P.underlying ty = some d) (hd : d.isRow = true) (hi : (P.info? ty).map (·.size) = some cs.length) : YieldsIf P ops S o (.agg cs.toArray) a := by
  refine Or.inl ⟨hw, fun w hS => ?_⟩
  have hl : (loadCells p cs.length).run P w = .ok cs.toArray w := run_loadCells_list (P := P) w p cs (hc w hS)
  have hrun : (loadVar ty p).run P w = .ok (.agg cs.toArray) w := by
    cases hq : P.info? ty with
    | none => simp [hq] at hi
    | some i =>
      have hs : i.size = cs.length := by simpa [hq] using hi
      have hagg : (isAgg ty).run P w = .ok true w := by
        unfold isAgg
        rw [Sem.run_bind, run_underlying hu w]
        cases d <;> simp_all
      simp [loadVar, Sem.run_bind, hagg, sizeOf, typeInfo, hq, hs, hl]
  unfold execOp
  simp only [ho, hx, Instr.loadAt, Instr.sureAddr, Sem.run_bind, Sem.run_pure, Result.andThen_ok, hrun]
theorem meth_dur (x : Value) (w : World) : (method 310 24 x "Durable").run Try.prog w = .ok (13, x) w := by kernel_rfl
theorem meth_flush (x : Value) (w : World) : (method 310 24 x "Flush").run Try.prog w = .ok (126, x) w := by kernel_rfl
theorem cell_offF {F : Nat → Prop} {w w' : World} {p : Addr} {u : Value} (h : w.cell? p = some u) (ho : Off F w w') (hn : ¬ F p.block) : w'.cell? p = some u := by
  rw [← h]
  refine World.cell?_of_block (ho.block _ ?_ hn)
  unfold World.cell? at h
  by_cases q : p.block < w.heap.size
  · exact q
  · rw [Array.getElem?_eq_none (by omega)] at h; cases h
theorem set_splice {α : Type} (L : List α) (o : Nat) (x : α) (h : o < L.length) : L.set o x = splice L o [x] := by
  unfold splice
  rw [List.set_eq_take_append_cons_drop, if_pos h]
  rfl
theorem posF_map (fs : List Fm) (u : Bool) (k : Int) : posF fs u k = (fs.map fun f => (f.un, f.no)).findIdx? fun q => decide (q.1 = u ∧ q.2 = k) := by
  unfold posF
  rw [List.findIdx?_map]
  rfl
theorem ids_set {fs : List Fm} {i : Nat} {f f' : Fm} (h : fs[i]? = some f) (h1 : f'.un = f.un) (h2 : f'.no = f.no) : (fs.set i f').map (fun f => (f.un, f.no)) = fs.map fun f => (f.un, f.no) := by
  apply List.ext_getElem?
  intro j
  rw [List.getElem?_map, List.getElem?_map, List.getElem?_set]
  by_cases q : i = j
  · subst q
    rw [if_pos rfl, if_pos (List.getElem?_eq_some_iff.1 h).1, h]
    simp [h1, h2]
  · rw [if_neg q]
theorem where_set {fs : List Fm} {i : Nat} {f f' : Fm} (h : fs[i]? = some f) (h1 : f'.un = f.un) (h2 : f'.no = f.no) : whereF (fs.set i f') = whereF fs := by
  funext u k
  unfold whereF
  rw [posF_map, posF_map, ids_set h h1 h2]
theorem ne_cellsC {w : World} {a b : Nat} {x y : Array Value} {s t : TypeId} (h : w.heap[a]? = some (.cells x s (0, 0))) (k : w.heap[b]? = some (.cells y t (0, 0))) (hst : s ≠ t) : a ≠ b := by
  rintro rfl
  rw [h] at k
  simp at k
  exact hst k.2
theorem ne_mapC {w : World} {a b : Nat} {x : Array Value} {s : TypeId} (h : w.heap[a]? = some (.cells x s (0, 0))) (k : ∃ es cl, w.heap[b]? = some (.map es cl)) : a ≠ b := by
  rintro rfl
  obtain ⟨es, cl, k⟩ := k
  rw [h] at k
  cases k
theorem CA.frame {w : World} {gc gd gl gk ak : Nat} {a n0 cap : Nat} {m n : Nat} {s : Cs} {M : Int} (c : CA w gc gd gl gk ak (.slice (some ⟨a, 0, none⟩) n0 cap) m n s M) : ∃ x, w.heap[a]? = some (.cells x 122 (0, 0)) := by
  rcases c.own.2 with ⟨e, _⟩ | ⟨g, cap', cur, e, _, hc, _⟩
  · cases e
  · cases e; exact ⟨cur, hc⟩
theorem CA.turn {w : World} {gc gd gl gk ak : Nat} {a cap : Nat} {m n : Nat} {s : Cs} {M : Int} (c : CA w gc gd gl gk ak (.slice (some ⟨a, 0, none⟩) s.fs.length cap) m n s M) (ok : ∀ f ∈ s.fs, f.Ok) {i o : Nat} {f f' : Fm} (hf : s.fs[i]? = some f) (ho : o < 229) (v : Value) (hs : splice f.cells o [v] = f'.cells) (h1 : f'.un = f.un) (h2 : f'.no = f.no) :
    CA (w.setCell ⟨a, i * 229 + o, none⟩ v) gc gd gl gk ak (.slice (some ⟨a, 0, none⟩) s.fs.length cap) m n { s with fs := s.fs.set i f' } M := by
  obtain ⟨x, hx⟩ := c.frame
  have hl := (List.getElem?_eq_some_iff.1 hf).1
  have O : Off (· = a) w (w.setCell ⟨a, i * 229 + o, none⟩ v) := Off.of_setCell _ _ _ rfl
  have hfl := flatF_length ok
  refine ⟨c.row.off O (fun e => ne_cellsC c.row hx (by decide) e), ?_, ?_, c.clk.off O (fun k q e => ?_), c.n_lt⟩
  · have := (World.ownsRow.stored c.own (i * 229 + o) v).1
    rw [set_splice _ _ _ (by rw [hfl]; omega), flatF_splice ok i o f f' [v] hf (by simp; omega) hs] at this
    have e : (s.fs.set i f').length = s.fs.length := List.length_set ..
    show World.ownsRow _ 0 122 229 _ (s.fs.set i f').length _
    rw [e]
    exact this
  · show WMap _ m n (whereF (s.fs.set i f'))
    rw [where_set hf h1 h2]
    exact c.map.off O (fun e => ne_mapC hx c.map.is e.symm)
  · rcases q with q | q
    · exact ne_cellsC c.clk.row hx (by decide) (q.symm.trans e)
    · exact ne_cellsC c.clk.arr hx (by decide) (q.symm.trans e)
theorem Cs.Ok.turn {s : Cs} (ok : s.Ok) {i : Nat} {f f' : Fm} (hf : s.fs[i]? = some f) (fo : f'.Ok) (h1 : f'.un = f.un) (h2 : f'.no = f.no) : Cs.Ok { s with fs := s.fs.set i f' } := by
  refine ⟨ok.pages, ok.undo, ok.most, fun g hg => ?_, by show (s.fs.set i f').length ≤ _; rw [List.length_set]; exact ok.few, fun p q x y hx hy e1 e2 => ?_, ok.ck, fun g hg => ?_⟩
  · rcases List.mem_or_eq_of_mem_set hg with y | y
    · exact ok.fs g y
    · rw [y]; exact fo
  · have old : ∀ (p : Nat) (x : Fm), (s.fs.set i f')[p]? = some x → ∃ z, s.fs[p]? = some z ∧ z.un = x.un ∧ z.no = x.no := fun p x hx => by
      rw [List.getElem?_set] at hx
      split at hx
      · rename_i e
        subst e
        split at hx
        · cases hx; exact ⟨f, hf, h1.symm, h2.symm⟩
        · cases hx
      · exact ⟨x, hx, rfl, rfl⟩
    obtain ⟨z, z1, z2, z3⟩ := old p x hx
    obtain ⟨t, t1, t2, t3⟩ := old q y hy
    exact ok.one p q z t z1 t1 (by rw [z2, t2, e1]) (by rw [z3, t3, e2])
  · rcases List.mem_or_eq_of_mem_set hg with y | y
    · exact ok.page g y
    · rw [y, h1, h2]; exact ok.page f (List.mem_of_getElem? hf)
theorem CStep.logd {w W : World} {F : Nat → Prop} {gc gd gl gk ak : Nat} {fv : Value} {m n : Nat} {vl vs : Value} {L : Loc} {s' : Cs} {l' : Lg} {d' : Dsk} {M' : Int} {N' : Nat} (hdis : ∀ j, lfoot gl gd vl vs L j → ¬ cfoot gc gk ak fv m j) (hF : ∀ j, lfoot gl gd vl vs L j ∨ cfoot gc gk ak fv m j → F j) (hlt : ∀ j, cfoot gc gk ak fv m j → j < w.heap.size)
    (ho : Off F w W) (hst : LStep w gl gd (fun j => lfoot gl gd vl vs L j) l' d' N' W) (cA : CA W gc gd gl gk ak fv m n s' M') (ok : s'.Ok) : CStep w F gc gd gl gk ak s' l' d' M' N' W := by
  obtain ⟨vl', vs', L', h1, h2, h3⟩ := hst
  refine ⟨ho, fun j => lfoot gl gd vl' vs' L' j ∨ cfoot gc gk ak fv m j, ⟨⟨fv, m, n, vl', vs', L', cA, h1, fun j q q2 => ?_, fun j q => q⟩, ok, fun j q => ?_⟩, fun j hj q => ?_⟩
  · rcases h3 j q with y | y
    · exact hdis j y q2
    · have := hlt j q2; omega
  · rcases q with q | q
    · exact h1.lt q
    · exact Nat.lt_of_lt_of_le (hlt j q) ho.size
  · rcases q with q | q
    · rcases h3 j q with y | y
      · exact hF j (Or.inl y)
      · omega
    · exact hF j (Or.inr q)
end Go.Proofs.Ytehogiondcpbcaa
