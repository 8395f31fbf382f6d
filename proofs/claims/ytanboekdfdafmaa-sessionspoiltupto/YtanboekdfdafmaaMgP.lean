/- Two ends that talk: the views of what the law does (plain). Two ends that talk: a tick of one end, and what it answers is under way. -/
import Derived.Test.YtanboekdfdafmaaMgO
namespace Go.Proofs.Ytanboekdfdafmaa.Pv
open Go.ChangeShapes Go.WideShapes Go.ChangeAt Go.RowKit Go.Joins Go.Deep Go.Proofs.Ytanboekdfdafmaa.PM Go.Proofs.Ytanboekdfdafmaa.Ask Go.Proofs.Ytanboekdfdafmaa.Ge
set_option linter.unusedVariables false
set_option linter.unusedSimpArgs false

/-- nothing has come for so long -/
theorem up_end {d i h p k a e w o k' : Int} (hk : k ≤ k') (hw : w ≠ 0) (ha : w ≤ k' - a) : (moveP (upS d i h p k a e w o) k').1.state = 0 := by
  have hc : clk (upS d i h p k a e w o) k' = upS d i h p k' a e w o := by
    have : max k k' = k' := by omega
    show (⟨d, i, h, p, max k k', 3, a, e, w, o, [], 0⟩ : Se) = _
    rw [this]
    rfl
  unfold moveP
  rw [hc]
  unfold dueP
  have h1 : ¬ ((3 : Int) = 0 ∨ w = 0) := by rintro (e1 | e1); exact absurd e1 (by decide); exact hw e1
  show (if (3 : Int) = 0 ∨ w = 0 then _ else if w ≤ k' - a then _ else _ : Se × Ou).1.state = 0
  rw [if_neg h1, if_pos ha]
  rfl
/-- an end is started -/
def startT (t : Tl) (i : Nat) (now : Int) : Tl := outP (sesP t i (startP (t.s i) now).1) i (startP (t.s i) now).2
def tickT (t : Tl) (i : Nat) : Tl := outP (sesP t i (moveP (t.s i) t.clk).1) i (moveP (t.s i) t.clk).2
theorem vw_start0 {d0 i0 h0 d1 i1 h1 : Int} (h : Hs d0 i0 h0 d1 i1 h1) : vw (startT (newT (newS d0 i0 h0 d1) (newS d1 i1 h1 d0)) 0 0) = ⟨opS d0 i0 h0 d1, newS d1 i1 h1 d0, [], encB (opn (newS d0 i0 h0 d1)), 0, 0, [], [], [], [], 0⟩ := by
  unfold startT
  rw [vw_out0]
  show out0 (vw (sesP (newT (newS d0 i0 h0 d1) (newS d1 i1 h1 d0)) 0 (startP (newS d0 i0 h0 d1) 0).1)) (startP (newS d0 i0 h0 d1) 0).2 = _
  rw [start_new h.pd0 h.pi0 h.ph0]
  rfl
theorem vw_start {d0 i0 h0 d1 i1 h1 : Int} (h : Hs d0 i0 h0 d1 i1 h1) : vw (startT (startT (newT (newS d0 i0 h0 d1) (newS d1 i1 h1 d0)) 0 0) 1 0) = v1 d0 i0 h0 d1 i1 h1 := by
  have e0 : vw (startT (newT (newS d0 i0 h0 d1) (newS d1 i1 h1 d0)) 0 0) = ⟨opS d0 i0 h0 d1, newS d1 i1 h1 d0, [], encB (opn (newS d0 i0 h0 d1)), 0, 0, [], [], [], [], 0⟩ := by
    unfold startT
    rw [vw_out0]
    show out0 (vw (sesP (newT (newS d0 i0 h0 d1) (newS d1 i1 h1 d0)) 0 (startP (newS d0 i0 h0 d1) 0).1)) (startP (newS d0 i0 h0 d1) 0).2 = _
    rw [start_new h.pd0 h.pi0 h.ph0]
    rfl
  have s1 : (startT (newT (newS d0 i0 h0 d1) (newS d1 i1 h1 d0)) 0 0).s 1 = newS d1 i1 h1 d0 := congrArg Vs.s1 e0
  obtain ⟨t, ht⟩ : ∃ t, startT (newT (newS d0 i0 h0 d1) (newS d1 i1 h1 d0)) 0 0 = t := ⟨_, rfl⟩
  rw [ht] at e0 s1 ⊢
  unfold startT
  rw [vw_out1, s1, start_new h.pd1 h.pi1 h.ph1]
  have e1 : vw (sesP t 1 (opS d1 i1 h1 d0)) = { vw t with s1 := opS d1 i1 h1 d0 } := rfl
  show out1 (vw (sesP t 1 (opS d1 i1 h1 d0))) _ = _
  rw [e1, e0]
  rfl
theorem vw_tick0 (t : Tl) : vw (tickT t 0) = tk0 (vw t) := by
  unfold tickT
  rw [vw_out0]
  rfl
theorem vw_tick1 (t : Tl) : vw (tickT t 1) = tk1 (vw t) := by
  unfold tickT
  rw [vw_out1]
  rfl
theorem vw_clk (t : Tl) (k : Int) : vw { t with clk := k } = { vw t with k := k } := rfl
theorem vw_y {t : Tl} {v : Vs} (h : vw t = v) : t.y 0 = v.y0 ∧ t.y 1 = v.y1 := by subst h; exact ⟨rfl, rfl⟩
theorem rest_true {a b : List Nat} (h0 : a = []) (h1 : b = []) : decide (a.length + b.length = 0) = true := by subst h0 h1; rfl
/-- what the configs are -/
theorem cfg_ok (D0 D1 I0 I1 H0 H1 : Int) : ∃ d0 i0 h0 d1 i1 h1 : Int, (if 1 + (md I0 1000 : Int) = 1 + (md I1 1000 : Int) then (cg D0 D1 I0 I1 H0 H1 2).set 5 (.int .i64 (1 + (md I1 1000 : Int) + 1)) else cg D0 D1 I0 I1 H0 H1 2) = [.int .i64 d0, .int .i64 i0, .int .i64 h0, .int .i64 d1, .int .i64 d1, .int .i64 i1, .int .i64 h1, .int .i64 d0] ∧ Hs d0 i0 h0 d1 i1 h1 ∧ Rc d0 i0 h0 d1 ∧ Rc d1 i1 h1 d0 ∧ h0 ≤ 59 ∧ h1 ≤ 59 := by
  have l0 := @md_lt D0 1000 (by decide)
  have l1 := @md_lt D1 1000 (by decide)
  have l2 := @md_lt I0 1000 (by decide)
  have l3 := @md_lt I1 1000 (by decide)
  have l4 := @md_lt H0 60 (by decide)
  have l5 := @md_lt H1 60 (by decide)
  have hh0 : ((if md H0 60 < 3 then 0 else (md H0 60 : Int)) = 0 ∨ (3 ≤ (if md H0 60 < 3 then 0 else (md H0 60 : Int)) ∧ (if md H0 60 < 3 then 0 else (md H0 60 : Int)) ≤ 65535)) ∧ (if md H0 60 < 3 then 0 else (md H0 60 : Int)) ≤ 59 := by split <;> omega
  have hh1 : ((if md H1 60 < 3 then 0 else (md H1 60 : Int)) = 0 ∨ (3 ≤ (if md H1 60 < 3 then 0 else (md H1 60 : Int)) ∧ (if md H1 60 < 3 then 0 else (md H1 60 : Int)) ≤ 65535)) ∧ (if md H1 60 < 3 then 0 else (md H1 60 : Int)) ≤ 59 := by split <;> omega
  have d0 : 1 ≤ 1 + (md D0 1000 : Int) ∧ 1 + (md D0 1000 : Int) ≤ 4294967295 := by omega
  have d1 : 1 ≤ 1 + (md D1 1000 : Int) ∧ 1 + (md D1 1000 : Int) ≤ 4294967295 := by omega
  have i0 : 1 ≤ 1 + (md I0 1000 : Int) ∧ 1 + (md I0 1000 : Int) ≤ 4294967295 := by omega
  by_cases e : 1 + (md I0 1000 : Int) = 1 + (md I1 1000 : Int)
  · have i1 : 1 ≤ 1 + (md I1 1000 : Int) + 1 ∧ 1 + (md I1 1000 : Int) + 1 ≤ 4294967295 := by omega
    rw [if_pos e]
    exact ⟨_, _, _, _, _, _, rfl, ⟨d0, d1, i0, i1, hh0.1, hh1.1, by omega⟩, ⟨d0, i0, d1, hh0.1⟩, ⟨d1, i1, d0, hh1.1⟩, hh0.2, hh1.2⟩
  · have i1 : 1 ≤ 1 + (md I1 1000 : Int) ∧ 1 + (md I1 1000 : Int) ≤ 4294967295 := by omega
    rw [if_neg e]
    exact ⟨_, _, _, _, _, _, rfl, ⟨d0, d1, i0, i1, hh0.1, hh1.1, e⟩, ⟨d0, i0, d1, hh0.1⟩, ⟨d1, i1, d0, hh1.1⟩, hh0.2, hh1.2⟩
end Go.Proofs.Ytanboekdfdafmaa.Pv
namespace Go.Proofs.Ytanboekdfdafmaa.Pv
open Go.ChangeShapes Go.WideShapes Go.ChangeAt Go.RowKit Go.Joins Go.Deep Go.Proofs.Ytanboekdfdafmaa.PM Go.Proofs.Ytanboekdfdafmaa.Ask Go.Proofs.Ytanboekdfdafmaa.Ge
set_option linter.unusedVariables false
set_option linter.unusedSimpArgs false

theorem Kl.below {w w' : World} {bt M : Nat} {c c' : Cp} (h : Kl w w' bt c c') (hM : M ≤ w.heap.size) (hl : ∀ g, c.A bt g → M ≤ g) : Below M w w' :=
  ⟨h.str.os, h.str.tape, h.str.output, h.str.size, fun g hg => h.blk g (by omega) (fun e => by have := hl g e; omega)⟩
theorem Kl.bel {w w' : World} {bt : Nat} {c : Cp} (hb : Below w.heap.size w w') : Kl w w' bt c c := ⟨hb.mono (Nat.zero_le _), fun g hg _ => hb.block g hg, fun _ h => .inl h⟩
/-- the talk's own cells that are looked at -/
def TC (bt : Nat) (c : Cp) (k : Int) (w : World) : Prop := w.cell? ⟨bt, 0, none⟩ = some (.pointer (some ⟨c.b 0, 0, none⟩)) ∧ w.cell? ⟨bt, 1, none⟩ = some (.pointer (some ⟨c.b 1, 0, none⟩)) ∧ w.cell? ⟨bt, 10, none⟩ = some (.int .i64 k)
theorem TI.tc {N : Nat} {w : World} {bt : Nat} {t : Tl} {c : Cp} (h : TI N w bt t c) : TC bt c t.clk w := ⟨h.box.cell 0, h.box.cell 1, h.box.cell 10⟩
theorem TC.b {bt : Nat} {c c' : Cp} {k : Int} {w : World} (h : TC bt c k w) (hb : c.b = c'.b) : TC bt c' k w := by unfold TC at *; rw [← hb]; exact h
/-- the clock is set -/
theorem TI.clock {N : Nat} {w : World} {bt : Nat} {t : Tl} {c : Cp} (h : TI N w bt t c) (k : Int) : TI N (w.setCell ⟨bt, 10, none⟩ (.int .i64 k)) bt { t with clk := k } c ∧ Kl w (w.setCell ⟨bt, 10, none⟩ (.int .i64 k)) bt c c :=
  h.turn (Ko.set _ _ _ _) (h.box.set 10 _ rfl) ⟨rfl, rfl, rfl, rfl⟩
theorem vw_parts {t : Tl} {v : Vs} (h : vw t = v) : (t.s 0 = v.s0 ∧ t.s 1 = v.s1) ∧ (t.y 0 = v.y0 ∧ t.y 1 = v.y1) ∧ (t.u 0 = v.u0 ∧ t.u 1 = v.u1) ∧ (t.o 0 = v.o0 ∧ t.o 1 = v.o1) ∧ (t.g 0 = v.g0 ∧ t.g 1 = v.g1) ∧ t.clk = v.k := by subst h; exact ⟨⟨rfl, rfl⟩, ⟨rfl, rfl⟩, ⟨rfl, rfl⟩, ⟨rfl, rfl⟩, ⟨rfl, rfl⟩, rfl⟩
theorem TI.state {N : Nat} {w : World} {bt : Nat} {t : Tl} {c : Cp} (h : TI N w bt t c) (i : Nat) (hi : i < 2) {z : Int} (hz : (t.s i).state = z) : w.cell? ⟨c.b i, 5, none⟩ = some (.int .i64 z) := by rw [← hz]; exact (h.e i hi).box.cell 5
theorem tick_oo (s : Se) (now : Int) : Oo (moveP s now).2 := Oo.nil.due _
theorem tickT_clk (t : Tl) (i : Nat) : (tickT t i).clk = t.clk := outP_clk _ _ _
/-- what is known behind a call of one end: what it answers may go to talk.out -/
def MidT (N : Nat) (w : World) (bt i : Nat) (c : Cp) (k : Int) (t' : Tl) (vo : Value) (w' : World) : Prop :=
  TC bt c k w' ∧ w.heap.size ≤ w'.heap.size ∧ Calls Try.prog 9 #[.pointer (some ⟨bt, 0, none⟩), .int .i64 (i : Int), vo] w' (fun e2 w2 => e2 = .returned (.bool true) ∧ ∃ c', TI N w2 bt t' c' ∧ Kl w w2 bt c c' ∧ (c'.b = c.b ∧ c'.h = c.h))
theorem tick0_out (N bt : Nat) (t : Tl) (c : Cp) (w : World) (h : TI N w bt t c) (hN : N ≤ w.heap.size) (hck : -9223372036854775808 ≤ t.clk ∧ t.clk < 9223372036854775808) (hy : (t.y 1).length ≤ 1000000) (ho : (t.o 0).length ≤ 1000000) (hu : 0 ≤ t.u 0 ∧ t.u 0 ≤ 1000000) :
    Calls Try.prog 17 #[.pointer (some ⟨c.b 0, 0, none⟩), .int .i64 t.clk] w fun e w' => ∃ vb ve, e = .returned (.agg #[vb, ve]) ∧ MidT N w bt 0 c t.clk (tickT t 0) (.agg #[vb, ve]) w' := by
  obtain ⟨sa, oa, hsa⟩ : ∃ a b, moveP (t.s 0) t.clk = (a, b) := ⟨_, _, rfl⟩
  refine (tick_any (c.b 0) (t.s 0) (c.st 0) t.clk w (h.e 0 (by omega)) hck sa oa hsa).mono ?_
  intro e w10 hm
  obtain ⟨vb, ve, l, c1, rfl, ht1, hk1, hb1, hov, hav, hml⟩ := mv_step h (i := 0) (by omega) hN hm
  have hoo := tick_oo (t.s 0) t.clk
  have hln := moveP_len (t.s 0) t.clk
  rw [hsa] at hoo hln
  dsimp only at hoo hln
  refine ⟨vb, ve, rfl, ht1.tc.b hb1.1, hk1.str.size, ?_⟩
  refine (out0_any N bt (sesP t 0 sa) c1 oa vb ve l w10 ht1 (Nat.le_trans hN hk1.str.size) hov hav hoo.u8 hoo.kd (by show (t.y 1).length + _ ≤ _; omega) (by omega) (by show (t.o 0).length ≤ _; omega) (by show 0 ≤ t.u 0 ∧ t.u 0 ≤ _; omega) (tickT t 0) (by unfold tickT; rw [hsa])).mono ?_
  intro e w11 ho2
  exact out_step hk1 hb1 hml ho2
theorem tick1_out (N bt : Nat) (t : Tl) (c : Cp) (w : World) (h : TI N w bt t c) (hN : N ≤ w.heap.size) (hck : -9223372036854775808 ≤ t.clk ∧ t.clk < 9223372036854775808) (hy : (t.y 0).length ≤ 1000000) (ho : (t.o 1).length ≤ 1000000) (hu : 0 ≤ t.u 1 ∧ t.u 1 ≤ 1000000) :
    Calls Try.prog 17 #[.pointer (some ⟨c.b 1, 0, none⟩), .int .i64 t.clk] w fun e w' => ∃ vb ve, e = .returned (.agg #[vb, ve]) ∧ MidT N w bt 1 c t.clk (tickT t 1) (.agg #[vb, ve]) w' := by
  obtain ⟨sa, oa, hsa⟩ : ∃ a b, moveP (t.s 1) t.clk = (a, b) := ⟨_, _, rfl⟩
  refine (tick_any (c.b 1) (t.s 1) (c.st 1) t.clk w (h.e 1 (by omega)) hck sa oa hsa).mono ?_
  intro e w10 hm
  obtain ⟨vb, ve, l, c1, rfl, ht1, hk1, hb1, hov, hav, hml⟩ := mv_step h (i := 1) (by omega) hN hm
  have hoo := tick_oo (t.s 1) t.clk
  have hln := moveP_len (t.s 1) t.clk
  rw [hsa] at hoo hln
  dsimp only at hoo hln
  refine ⟨vb, ve, rfl, ht1.tc.b hb1.1, hk1.str.size, ?_⟩
  refine (out1_any N bt (sesP t 1 sa) c1 oa vb ve l w10 ht1 (Nat.le_trans hN hk1.str.size) hov hav hoo.u8 hoo.kd (by show (t.y 0).length + _ ≤ _; omega) (by omega) (by show (t.o 1).length ≤ _; omega) (by show 0 ≤ t.u 1 ∧ t.u 1 ≤ _; omega) (tickT t 1) (by unfold tickT; rw [hsa])).mono ?_
  intro e w11 ho2
  exact out_step hk1 hb1 hml ho2
theorem start0_out (N bt : Nat) (t : Tl) (c : Cp) (w : World) (h : TI N w bt t c) (hN : N ≤ w.heap.size) (hy : (t.y 1).length ≤ 1000000) (ho : (t.o 0).length ≤ 1000000) (hu : 0 ≤ t.u 0 ∧ t.u 0 ≤ 1000000) :
    Calls Try.prog 10 #[.pointer (some ⟨c.b 0, 0, none⟩), .int .i64 0] w fun e w' => ∃ vb ve, e = .returned (.agg #[vb, ve]) ∧ MidT N w bt 0 c t.clk (startT t 0 0) (.agg #[vb, ve]) w' := by
  obtain ⟨sa, oa, hsa⟩ : ∃ a b, startP (t.s 0) 0 = (a, b) := ⟨_, _, rfl⟩
  refine (start_any (c.b 0) (t.s 0) (c.st 0) 0 w (h.e 0 (by omega)) (by decide) sa oa hsa).mono ?_
  intro e w10 hm
  obtain ⟨vb, ve, l, c1, rfl, ht1, hk1, hb1, hov, hav, hml⟩ := mv_step h (i := 0) (by omega) hN hm
  have hoo := Oo.start (t.s 0) 0
  rw [hsa] at hoo
  dsimp only at hoo
  refine ⟨vb, ve, rfl, ht1.tc.b hb1.1, hk1.str.size, ?_⟩
  refine (out0_any N bt (sesP t 0 sa) c1 oa vb ve l w10 ht1 (Nat.le_trans hN hk1.str.size) hov hav hoo.1.u8 hoo.1.kd (by show (t.y 1).length + _ ≤ _; have := hoo.2.1; omega) (by have := hoo.2.2; omega) (by show (t.o 0).length ≤ _; omega) (by show 0 ≤ t.u 0 ∧ t.u 0 ≤ _; omega) (startT t 0 0) (by unfold startT; rw [hsa])).mono ?_
  intro e w11 ho2
  exact out_step hk1 hb1 hml ho2
theorem start1_out (N bt : Nat) (t : Tl) (c : Cp) (w : World) (h : TI N w bt t c) (hN : N ≤ w.heap.size) (hy : (t.y 0).length ≤ 1000000) (ho : (t.o 1).length ≤ 1000000) (hu : 0 ≤ t.u 1 ∧ t.u 1 ≤ 1000000) :
    Calls Try.prog 10 #[.pointer (some ⟨c.b 1, 0, none⟩), .int .i64 0] w fun e w' => ∃ vb ve, e = .returned (.agg #[vb, ve]) ∧ MidT N w bt 1 c t.clk (startT t 1 0) (.agg #[vb, ve]) w' := by
  obtain ⟨sa, oa, hsa⟩ : ∃ a b, startP (t.s 1) 0 = (a, b) := ⟨_, _, rfl⟩
  refine (start_any (c.b 1) (t.s 1) (c.st 1) 0 w (h.e 1 (by omega)) (by decide) sa oa hsa).mono ?_
  intro e w10 hm
  obtain ⟨vb, ve, l, c1, rfl, ht1, hk1, hb1, hov, hav, hml⟩ := mv_step h (i := 1) (by omega) hN hm
  have hoo := Oo.start (t.s 1) 0
  rw [hsa] at hoo
  dsimp only at hoo
  refine ⟨vb, ve, rfl, ht1.tc.b hb1.1, hk1.str.size, ?_⟩
  refine (out1_any N bt (sesP t 1 sa) c1 oa vb ve l w10 ht1 (Nat.le_trans hN hk1.str.size) hov hav hoo.1.u8 hoo.1.kd (by show (t.y 0).length + _ ≤ _; have := hoo.2.1; omega) (by have := hoo.2.2; omega) (by show (t.o 1).length ≤ _; omega) (by show 0 ≤ t.u 1 ∧ t.u 1 ≤ _; omega) (startT t 1 0) (by unfold startT; rw [hsa])).mono ?_
  intro e w11 ho2
  exact out_step hk1 hb1 hml ho2
theorem vw_start1 {d0 i0 h0 d1 i1 h1 : Int} (h : Hs d0 i0 h0 d1 i1 h1) : vw (startT (newT (newS d0 i0 h0 d1) (newS d1 i1 h1 d0)) 1 0) = ⟨newS d0 i0 h0 d1, opS d1 i1 h1 d0, encB (opn (newS d1 i1 h1 d0)), [], 0, 0, [], [], [], [], 0⟩ := by
  unfold startT
  rw [vw_out1]
  show out1 (vw (sesP (newT (newS d0 i0 h0 d1) (newS d1 i1 h1 d0)) 1 (startP (newS d1 i1 h1 d0) 0).1)) (startP (newS d1 i1 h1 d0) 0).2 = _
  rw [start_new h.pd1 h.pi1 h.ph1]
  rfl
/-- whoever is first -/
theorem vw_start10 {d0 i0 h0 d1 i1 h1 : Int} (h : Hs d0 i0 h0 d1 i1 h1) : vw (startT (startT (newT (newS d0 i0 h0 d1) (newS d1 i1 h1 d0)) 1 0) 0 0) = v1 d0 i0 h0 d1 i1 h1 := by
  have e0 := vw_start1 h
  have s1 : (startT (newT (newS d0 i0 h0 d1) (newS d1 i1 h1 d0)) 1 0).s 0 = newS d0 i0 h0 d1 := congrArg Vs.s0 e0
  obtain ⟨t, ht⟩ : ∃ t, startT (newT (newS d0 i0 h0 d1) (newS d1 i1 h1 d0)) 1 0 = t := ⟨_, rfl⟩
  rw [ht] at e0 s1 ⊢
  unfold startT
  rw [vw_out0, s1, start_new h.pd0 h.pi0 h.ph0]
  have e1 : vw (sesP t 0 (opS d0 i0 h0 d1)) = { vw t with s0 := opS d0 i0 h0 d1 } := rfl
  show out0 (vw (sesP t 0 (opS d0 i0 h0 d1))) _ = _
  rw [e1, e0]
  rfl
end Go.Proofs.Ytanboekdfdafmaa.Pv
