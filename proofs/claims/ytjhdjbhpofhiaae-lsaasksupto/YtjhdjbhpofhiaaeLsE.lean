/- LsaOutright: what it answers. -/
import Derived.Test.YtjhdjbhpofhiaaeLsF
import Derived.Lib.QuietBelow
import Derived.BigQuiet
import Derived.Deep.CutRange
namespace Go.Proofs.Ytjhdjbhpofhiaae.Ls
open Go.ChangeShapes Go.WideShapes Go.ChangeAt Go.RowKit Go.Proofs.Ytjhdjbhpofhiaae.PM Go.Proofs.Ytjhdjbhpofhiaae.Ask
set_option linter.unusedVariables false

theorem ha3 {w : World} (o1 o2 o3 : Obj) (W : World) (hW : W = ((w.alloc o1).alloc o2).alloc o3) : W.heap[w.heap.size]? = some o1 ∧ W.heap[w.heap.size + 1]? = some o2 ∧ W.heap[w.heap.size + 1 + 1]? = some o3 ∧ W.heap.size = w.heap.size + 3 ∧ Below w.heap.size w W := by
  subst hW
  have e1 := World.alloc_heap_new w o1
  have e2 := World.alloc_heap_new (w.alloc o1) o2
  have e3 := World.alloc_heap_new ((w.alloc o1).alloc o2) o3
  rw [World.size_alloc] at e2 e3
  rw [World.size_alloc] at e3
  have k : ∀ {V : World} (o : Obj) {k : Nat} {x : Obj}, V.heap[k]? = some x → (V.alloc o).heap[k]? = some x := fun {V} o {k} {x} h => (Below.heap_alloc V o k (Array.getElem?_eq_some_iff.1 h).1).trans h
  exact ⟨k _ (k _ e1), k _ e2, e3, by simp, (((Below.refl _ w).alloc (Nat.le_refl _) _).alloc (by simp) _).alloc (by simp; omega) _⟩
/-- which of the calls is made, and what it answers -/
def Asked (X Y Z : Value) (A B C : Int) (a b : Value) (r : Int) : Prop := (a = X ∧ b = Y ∧ r = A) ∨ (a = Y ∧ b = Z ∧ r = B) ∨ (a = X ∧ b = Z ∧ r = C) ∨ (a = Y ∧ b = X ∧ r = -A) ∨ (a = X ∧ b = X ∧ r = 0)
def Asked2 (X Y : Value) (A : Int) (a b : Value) (r : Int) : Prop := (a = X ∧ b = Y ∧ r = A) ∨ (a = Y ∧ b = X ∧ r = -A)
theorem wrap_neg {A : Int} (h : A = -1 ∨ A = 0 ∨ A = 1) : IntKind.i64.wrap (-A) = -A := by
  rcases h with rfl | rfl | rfl <;> decide

theorem newer_seq {x y : Lsa} (h : y.seq < x.seq) : newer x y = 1 := by
  have e : cmp3 x.seq y.seq = 1 := by unfold cmp3; rw [if_neg (by omega), if_pos h]
  unfold newer
  rw [nz_cons, e, if_neg (by decide)]
/-- a whole box is loaded -/
theorem box_run {o : Oper} (x : Operand) (ho : o.op = .load 28 x) {ρ : Operand → Value} {s : Nat} (hx : ρ x = .pointer (some ⟨s, 0, none⟩)) {kind area origin pa pn seq age : Int} {lv sv : Value} {cost tag : Int} {W : World} (h : LBox s kind area origin pa pn seq age lv sv cost tag W) :
    (execOp ρ o).run Try.prog W = .ok (.value (.agg #[.int .i64 kind, .int .i64 area, .int .i64 origin, .int .u32 pa, .int .i64 pn, .int .i64 seq, .int .i64 age, lv, sv, .int .i64 cost, .int .i64 tag])) W := by
  obtain ⟨c0, c1, c2, c3, c4, c5, c6, c7, c8, c9, c10⟩ := h
  unfold execOp
  rw [ho]
  simp [go_sem, hx, c0, c1, c2, c3, c4, c5, c6, c7, c8, c9, c10]
theorem quiet_box {C : World → Prop} {o : Oper} {a : Act} {K : Act → Prop} (x : Operand) (ho : o.op = .load 28 x) {s : Nat} (hx : a.eval x = .pointer (some ⟨s, 0, none⟩)) {kind area origin pa pn seq age : Int} {lv sv : Value} {cost tag : Int} (h : ∀ W, C W → LBox s kind area origin pa pn seq age lv sv cost tag W)
    (hk : K (a.put o.dst (.agg #[.int .i64 kind, .int .i64 area, .int .i64 origin, .int .u32 pa, .int .i64 pn, .int .i64 seq, .int .i64 age, lv, sv, .int .i64 cost, .int .i64 tag]))) : o.quiet Try.prog a C K :=
  ⟨_, fun w hw => by unfold Oper.quietAt; rw [box_run x ho hx (h w hw)]; exact ⟨rfl, rfl⟩, hk⟩

set_option maxRecDepth 100000 in
set_option maxHeartbeats 8000000 in
theorem outright_any (x y z : Lsa) (la : Option Addr) (lc : Nat) (sa : Option Addr) (sc : Nat) (lb : Option Addr) (ld : Nat) (sb : Option Addr) (sd : Nat) (le : Option Addr) (lf : Nat) (se : Option Addr) (sf : Nat) (w : World) (hx : LsOk w x la sa) (hy : LsOk w y lb sb) (hz : LsOk w z le se) :
    Calls Try.prog 4 #[lsaV x la lc sa sc, lsaV y lb ld sb sd, lsaV z le lf se sf] w fun e w' => e = .returned (.bool true) ∧ Below w.heap.size w w' := by
  obtain ⟨A, hA⟩ : ∃ A, newer x y = A := ⟨_, rfl⟩
  obtain ⟨B, hB⟩ : ∃ B, newer y z = B := ⟨_, rfl⟩
  obtain ⟨C, hC⟩ : ∃ C, newer x z = C := ⟨_, rfl⟩
  obtain ⟨D, hD⟩ : ∃ D, order x y = D := ⟨_, rfl⟩
  have hAr : A = -1 ∨ A = 0 ∨ A = 1 := by rw [← hA]; exact ord_newer.rng x y
  have hBr : B = -1 ∨ B = 0 ∨ B = 1 := by rw [← hB]; exact ord_newer.rng y z
  have hCr : C = -1 ∨ C = 0 ∨ C = 1 := by rw [← hC]; exact ord_newer.rng x z
  have hDr : D = -1 ∨ D = 0 ∨ D = 1 := by rw [← hD]; exact ord_order.rng x y
  have hT : 0 ≤ A → 0 ≤ B → A ≤ C ∧ B ≤ C := by have := ord_newer.trans x y z; rw [hA, hB, hC] at this; exact this
  have hZ : A = 0 → C = B := by have := ord_newer.zero (x := x) (y := y) z; rw [hA, hB, hC] at this; exact this
  have HNW : Hid (∀ W a b r, Asked (lsaV x la lc sa sc) (lsaV y lb ld sb sd) (lsaV z le lf se sf) A B C a b r → Below w.heap.size w W → Calls Try.prog 13 #[a, b] W fun e w' => e = .returned (.int .i64 r) ∧ Below W.heap.size W w') := fun W a b r hp hW => by
    rcases hp with ⟨rfl, rfl, rfl⟩ | ⟨rfl, rfl, rfl⟩ | ⟨rfl, rfl, rfl⟩ | ⟨rfl, rfl, rfl⟩ | ⟨rfl, rfl, rfl⟩
    · exact newer_any x y la lc sa sc lb ld sb sd W (hx.bel hW) (hy.bel hW) _ hA
    · exact newer_any y z lb ld sb sd le lf se sf W (hy.bel hW) (hz.bel hW) _ hB
    · exact newer_any x z la lc sa sc le lf se sf W (hx.bel hW) (hz.bel hW) _ hC
    · exact newer_any y x lb ld sb sd la lc sa sc W (hy.bel hW) (hx.bel hW) _ (by rw [ord_newer.anti x y, hA])
    · exact newer_any x x la lc sa sc la lc sa sc W (hx.bel hW) (hx.bel hW) _ (ord_newer.refl x)
  have HOR : Hid (∀ W a b r, Asked2 (lsaV x la lc sa sc) (lsaV y lb ld sb sd) D a b r → Below w.heap.size w W → Calls Try.prog 11 #[a, b] W fun e w' => e = .returned (.int .i64 r) ∧ Below W.heap.size W w') := fun W a b r hp hW => by
    rcases hp with ⟨rfl, rfl, rfl⟩ | ⟨rfl, rfl, rfl⟩
    · exact lorder_any x y la lc sa sc lb ld sb sd W hx.p32 hy.p32 _ hD
    · exact lorder_any y x lb ld sb sd la lc sa sc W hy.p32 hx.p32 _ (by rw [ord_order.anti x y, hD])
  have HLAST : Hid (∀ W, Below w.heap.size w W → Calls Try.prog 13 #[lsaV { x with seq := 5, age := 0 } la lc sa sc, lsaV { x with seq := 4, age := 0 } la lc sa sc] W fun e w' => e = .returned (.int .i64 1) ∧ Below W.heap.size W w') := fun W hW => by
    have h5 : LsOk W { x with seq := 5, age := 0 } la sa := ⟨hx.lk.bel hW, hx.st.bel hW, hx.p32, hx.s32⟩
    have h4 : LsOk W { x with seq := 4, age := 0 } la sa := ⟨hx.lk.bel hW, hx.st.bel hW, hx.p32, hx.s32⟩
    have hn : newer { x with seq := 5, age := 0 } { x with seq := 4, age := 0 } = 1 := newer_seq (show (4 : Int) < 5 by decide)
    exact newer_any { x with seq := 5, age := 0 } { x with seq := 4, age := 0 } la lc sa sc la lc sa sc W h5 h4 1 hn
  obtain ⟨kind, area, origin, pa, pn, seq, age, cost, tag, links, stubs⟩ := x
  obtain ⟨kind2, area2, origin2, pa2, pn2, seq2, age2, cost2, tag2, links2, stubs2⟩ := y
  obtain ⟨kind3, area3, origin3, pa3, pn3, seq3, age3, cost3, tag3, links3, stubs3⟩ := z
  obtain ⟨n1, hn1⟩ : ∃ n1, links.length = n1 := ⟨_, rfl⟩
  obtain ⟨n2, hn2⟩ : ∃ n2, stubs.length = n2 := ⟨_, rfl⟩
  obtain ⟨m1, hm1⟩ : ∃ m1, links2.length = m1 := ⟨_, rfl⟩
  obtain ⟨m2, hm2⟩ : ∃ m2, stubs2.length = m2 := ⟨_, rfl⟩
  obtain ⟨q1, hq1⟩ : ∃ q1, links3.length = q1 := ⟨_, rfl⟩
  obtain ⟨q2, hq2⟩ : ∃ q2, stubs3.length = q2 := ⟨_, rfl⟩
  unfold lsaV at HNW HOR HLAST ⊢
  dsimp only at HNW HOR HLAST ⊢
  rw [hn1, hn2, hm1, hm2, hq1, hq2] at HNW ⊢
  rw [hn1, hn2, hm1, hm2] at HOR
  rw [hn1, hn2] at HLAST
  clear hA hB hC hD hn1 hn2 hm1 hm2 hq1 hq2 hx hy hz links stubs links2 stubs2 links3 stubs3
  have HT : Hid (0 ≤ A → 0 ≤ B → A ≤ C ∧ B ≤ C) := hT
  have HZ : Hid (A = 0 → C = B) := hZ
  have hwA : IntKind.i64.wrap (-A) = -A := wrap_neg hAr
  have hwD : IntKind.i64.wrap (-D) = -D := wrap_neg hDr
  have HAR : Hid (A = -1 ∨ A = 0 ∨ A = 1) := hAr
  have HBR : Hid (B = -1 ∨ B = 0 ∨ B = 1) := hBr
  have HCR : Hid (C = -1 ∨ C = 0 ∨ C = 1) := hCr
  clear hT hZ hAr hBr hCr hDr
  go_enter Try.func4, Try.ntmps4
  go_wp2_with fail
  obtain ⟨w0, hw0⟩ : ∃ w0, ((w.alloc (Obj.cells #[.int .i64 kind, .int .i64 area, .int .i64 origin, .int .u32 pa, .int .i64 pn, .int .i64 seq, .int .i64 age, .slice la n1 lc, .slice sa n2 sc, .int .i64 cost, .int .i64 tag] 28)).alloc (Obj.cells #[.int .i64 kind2, .int .i64 area2, .int .i64 origin2, .int .u32 pa2, .int .i64 pn2, .int .i64 seq2, .int .i64 age2, .slice lb m1 ld, .slice sb m2 sd, .int .i64 cost2, .int .i64 tag2] 28)).alloc (Obj.cells #[.int .i64 kind3, .int .i64 area3, .int .i64 origin3, .int .u32 pa3, .int .i64 pn3, .int .i64 seq3, .int .i64 age3, .slice le q1 lf, .slice se q2 sf, .int .i64 cost3, .int .i64 tag3] 28) = w0 := ⟨_, rfl⟩
  obtain ⟨g1, g2, g3, hs0, hb0⟩ := ha3 _ _ _ w0 hw0.symm
  have HX : Hid (LBox w.heap.size kind area origin pa pn seq age (.slice la n1 lc) (.slice sa n2 sc) cost tag w0 ∧ ∀ i, w0.frozen? ⟨w.heap.size, i, none⟩ = false) := ⟨by constructor <;> simp [World.cell?, g1], fun i => by simp [World.frozen?, g1]⟩
  have HY : Hid (LBox (w.heap.size + 1) kind2 area2 origin2 pa2 pn2 seq2 age2 (.slice lb m1 ld) (.slice sb m2 sd) cost2 tag2 w0 ∧ ∀ i, w0.frozen? ⟨w.heap.size + 1, i, none⟩ = false) := ⟨by constructor <;> simp [World.cell?, g2], fun i => by simp [World.frozen?, g2]⟩
  have HZ3 : Hid (LBox (w.heap.size + 1 + 1) kind3 area3 origin3 pa3 pn3 seq3 age3 (.slice le q1 lf) (.slice se q2 sf) cost3 tag3 w0) := by constructor <;> simp [World.cell?, g3]
  rw [hw0]
  clear hw0 g1 g2 g3
  obtain ⟨s, hs⟩ : ∃ s, w.heap.size = s := ⟨_, rfl⟩
  have HS : Hid (w.heap.size = s) := hs
  have HSZ : Hid (w0.heap.size = s + 3) := by rw [← hs]; exact hs0
  have HB0 : Hid (Below w.heap.size w w0) := hb0
  have HW0 : Hid (∀ d os, Below w.heap.size w (Sort.grow (redrawn w0 d) os)) := fun d os => hb0.trans ((below_regrown w0 d os).mono hb0.size)
  rw [hs] at HX HY HZ3 ⊢
  clear hs hb0 hs0
  have HCX : Hid (∀ W, (∃ p : Regrown, W = Sort.grow (redrawn w0 p.d) p.os) → LBox s kind area origin pa pn seq age (.slice la n1 lc) (.slice sa n2 sc) cost tag W) := fun W hW => HX.out.1.bel (regrown_low hW)
  have HCY : Hid (∀ W, (∃ p : Regrown, W = Sort.grow (redrawn w0 p.d) p.os) → LBox (s + 1) kind2 area2 origin2 pa2 pn2 seq2 age2 (.slice lb m1 ld) (.slice sb m2 sd) cost2 tag2 W) := fun W hW => HY.out.1.bel (regrown_low hW)
  have HCZ : Hid (∀ W, (∃ p : Regrown, W = Sort.grow (redrawn w0 p.d) p.os) → LBox (s + 1 + 1) kind3 area3 origin3 pa3 pn3 seq3 age3 (.slice le q1 lf) (.slice se q2 sf) cost3 tag3 W) := fun W hW => HZ3.out.bel (regrown_low hW)
  refine wp_region_quiet_below (by kernel_rfl) (by kernel_rfl) ?_
  repeat (first
    | (go_big_quiet_want; refine quiet_box _ rfl rfl HCX.out ?_; simp only [Act.put, List.setIfInBounds_toArray, List.set_cons_zero, List.set_cons_succ]; go_big_quiet_on)
    | (go_big_quiet_want; refine quiet_box _ rfl rfl HCY.out ?_; simp only [Act.put, List.setIfInBounds_toArray, List.set_cons_zero, List.set_cons_succ]; go_big_quiet_on)
    | (go_big_quiet_want; refine quiet_box _ rfl rfl HCZ.out ?_; simp only [Act.put, List.setIfInBounds_toArray, List.set_cons_zero, List.set_cons_succ]; go_big_quiet_on)
    | go_big_quiet_step (first | (go_at_call 13; exact Calls.regrown_of (HNW.out _ _ _ _ (by first | exact .inl ⟨rfl, rfl, rfl⟩ | exact .inr (.inl ⟨rfl, rfl, rfl⟩) | exact .inr (.inr (.inl ⟨rfl, rfl, rfl⟩))) (HW0.out _ _)))))
  refine wpQuiet_nil ?_
  intro w1 hw1
  have hb1 := regrown_low hw1
  have HB1 : Hid (Below w.heap.size w w1) := HB0.out.trans (hb1.mono HB0.out.size)
  have HSZ1 : Hid (s + 3 ≤ w1.heap.size) := by have := hb1.size; have h2 := HSZ.out; show _ ≤ _; omega
  have HX1 : Hid (LBox s kind area origin pa pn seq age (.slice la n1 lc) (.slice sa n2 sc) cost tag w1 ∧ ∀ i, w1.frozen? ⟨s, i, none⟩ = false) := ⟨HX.out.1.bel hb1, fun i => (World.frozen?_of_block (w := w0) (hb1.block s (by have := HSZ.out; omega))).trans (HX.out.2 i)⟩
  have HY1 : Hid (LBox (s + 1) kind2 area2 origin2 pa2 pn2 seq2 age2 (.slice lb m1 ld) (.slice sb m2 sd) cost2 tag2 w1 ∧ ∀ i, w1.frozen? ⟨s + 1, i, none⟩ = false) := ⟨HY.out.1.bel hb1, fun i => (World.frozen?_of_block (w := w0) (hb1.block (s + 1) (by have := HSZ.out; omega))).trans (HY.out.2 i)⟩
  clear hb1 hw1 HCX HCY HCZ HX HY HZ3 HB0 HSZ HW0
  have HCX : Hid (∀ W, (∃ p : Regrown, W = Sort.grow (redrawn w1 p.d) p.os) → LBox s kind area origin pa pn seq age (.slice la n1 lc) (.slice sa n2 sc) cost tag W) := fun W hW => HX1.out.1.bel (regrown_low hW)
  have HCY : Hid (∀ W, (∃ p : Regrown, W = Sort.grow (redrawn w1 p.d) p.os) → LBox (s + 1) kind2 area2 origin2 pa2 pn2 seq2 age2 (.slice lb m1 ld) (.slice sb m2 sd) cost2 tag2 W) := fun W hW => HY1.out.1.bel (regrown_low hW)
  have HW1 : Hid (∀ d os, Below w.heap.size w (Sort.grow (redrawn w1 d) os)) := fun d os => HB1.out.trans ((below_regrown w1 d os).mono HB1.out.size)
  go_wp2_with fail
  refine wp_region_quiet_below (by kernel_rfl) (by kernel_rfl) ?_
  repeat (first
    | (go_big_quiet_want; refine quiet_box _ rfl rfl HCX.out ?_; simp only [Act.put, List.setIfInBounds_toArray, List.set_cons_zero, List.set_cons_succ]; go_big_quiet_on)
    | (go_big_quiet_want; refine quiet_box _ rfl rfl HCY.out ?_; simp only [Act.put, List.setIfInBounds_toArray, List.set_cons_zero, List.set_cons_succ]; go_big_quiet_on)
    | go_big_quiet_step (first | (go_at_call 13; exact Calls.regrown_of (HNW.out _ _ _ _ (by first | exact .inr (.inr (.inr (.inl ⟨rfl, rfl, rfl⟩))) | exact .inr (.inr (.inr (.inr ⟨rfl, rfl, rfl⟩)))) (HW1.out _ _))) | (go_at_call 11; exact Calls.regrown_of (HOR.out _ _ _ _ (by first | exact .inl ⟨rfl, rfl, rfl⟩ | exact .inr ⟨rfl, rfl, rfl⟩) (HW1.out _ _)))))
  refine wpQuiet_nil ?_
  intro w2 hw2
  have hb2 := regrown_low hw2
  have HB2 : Hid (Below w.heap.size w w2) := HB1.out.trans (hb2.mono HB1.out.size)
  have HSZ2 : Hid (s + 3 ≤ w2.heap.size) := by have := hb2.size; have h2 := HSZ1.out; show _ ≤ _; omega
  have HX2 : Hid (LBox s kind area origin pa pn seq age (.slice la n1 lc) (.slice sa n2 sc) cost tag w2 ∧ ∀ i, w2.frozen? ⟨s, i, none⟩ = false) := ⟨HX1.out.1.bel hb2, fun i => (World.frozen?_of_block (w := w1) (hb2.block s (by have := HSZ1.out; omega))).trans (HX1.out.2 i)⟩
  have HY2 : Hid (LBox (s + 1) kind2 area2 origin2 pa2 pn2 seq2 age2 (.slice lb m1 ld) (.slice sb m2 sd) cost2 tag2 w2 ∧ ∀ i, w2.frozen? ⟨s + 1, i, none⟩ = false) := ⟨HY1.out.1.bel hb2, fun i => (World.frozen?_of_block (w := w1) (hb2.block (s + 1) (by have := HSZ1.out; omega))).trans (HY1.out.2 i)⟩
  clear hb2 hw2 HCX HCY HX1 HY1 HB1 HSZ1 HW1 HNW HOR
  go_upto_region 4 with fail
  go_cut [64] from 43 to 64 (fun c wx => c = .bool false ∧ wx = w2)
  case first =>
    have hT := HT.out
    have hZ := HZ.out
    have ha := HAR.out
    have hb := HBR.out
    have hc := HCR.out
    clear HT HZ HAR HBR HCR HLAST HX2 HY2 hwA hwD
    rcases ha with rfl | rfl | rfl <;> rcases hb with rfl | rfl | rfl <;> rcases hc with rfl | rfl | rfl <;>
      first
      | exact absurd hT (by decide)
      | exact absurd hZ (by decide)
      | (clear hT hZ; go_wp2_with fail; go_meet; exact ⟨rfl, rfl⟩)
  case rest =>
    obtain ⟨rfl, rfl⟩ := hcut
    obtain ⟨⟨c0, c1, c2, c3, c4, c5, c6, c7, c8, c9, c10⟩, fx⟩ := HX2.out
    obtain ⟨⟨d0, d1, d2, d3, d4, d5, d6, d7, d8, d9, d10⟩, fy⟩ := HY2.out
    clear HT HZ HAR HBR HCR HX2 HY2
    have hs1 : s < wc.heap.size := by have := HSZ2.out; omega
    have hs2 : s + 1 < wc.heap.size := by have := HSZ2.out; omega
    go_wp2_with fail
    obtain ⟨W, hW⟩ : ∃ W, (((((wc.setCell ⟨s + 1, 5, none⟩ (.int .i64 seq)).setCell ⟨s, 6, none⟩ (.int .i64 0)).setCell ⟨s + 1, 6, none⟩ (.int .i64 0)).alloc (Obj.cells #[.int .i64 kind, .int .i64 area, .int .i64 origin, .int .u32 pa, .int .i64 pn, .int .i64 5, .int .i64 0, .slice la n1 lc, .slice sa n2 sc, .int .i64 cost, .int .i64 tag] 28)).alloc (Obj.cells #[.int .i64 kind, .int .i64 area, .int .i64 origin, .int .u32 pa, .int .i64 pn, .int .i64 4, .int .i64 0, .slice la n1 lc, .slice sa n2 sc, .int .i64 cost, .int .i64 tag] 28)) = W := ⟨_, rfl⟩
    have HBW : Hid (Below w.heap.size w W) := by
      have hge : w.heap.size = s := HS.out
      have hsz := HB2.out.size
      rw [← hW]
      exact ((((HB2.out.setCell (p := ⟨s + 1, 5, none⟩) (by show _ ≤ s + 1; omega) _).setCell (p := ⟨s, 6, none⟩) (by show _ ≤ s; omega) _).setCell (p := ⟨s + 1, 6, none⟩) (by show _ ≤ s + 1; omega) _).alloc (by simp; omega) _).alloc (by simp; omega) _
    rw [hW]
    clear hW c0 c1 c2 c3 c4 c5 c6 c7 c8 c9 c10 d0 d1 d2 d3 d4 d5 d6 d7 d8 d9 d10 fx fy
    refine (HLAST.out W HBW.out).mono ?_
    rintro e w5 ⟨rfl, hb5⟩
    have HBE : Hid (Below w.heap.size w w5) := HBW.out.trans (hb5.mono HBW.out.size)
    clear hb5
    go_wp2_with fail
    go_ret
    exact ⟨rfl, HBE.out⟩
end Go.Proofs.Ytjhdjbhpofhiaae.Ls
