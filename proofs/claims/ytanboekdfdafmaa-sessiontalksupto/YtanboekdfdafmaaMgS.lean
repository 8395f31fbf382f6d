/- SessionTalks: the law. -/
import Derived.Test.YtanboekdfdafmaaMgR
import Derived.Test.YtanboekdfdafmaaMgQ
namespace Go.Proofs.Ytanboekdfdafmaa.Pv
open Go.ChangeShapes Go.WideShapes Go.ChangeAt Go.RowKit Go.Joins Go.Deep Go.Proofs.Ytanboekdfdafmaa.PM Go.Proofs.Ytanboekdfdafmaa.Ask Go.Proofs.Ytanboekdfdafmaa.Ge
set_option linter.unusedVariables false
set_option linter.unusedSimpArgs false

def tsz : List Value := tsL ⟨0, 0, 0, 0, ms0⟩ sZ
theorem tsnew_run {o : Oper} {ρ : Operand → Value} {W : World} (ho : o.op = .alloc 56) : (execOp ρ o).run Try.prog W = .ok (.value (.pointer (some ⟨W.heap.size, 0, none⟩))) (W.alloc (Obj.cells tsz.toArray 56)) := by
  unfold execOp
  rw [ho]
  simp [go_sem, tsz, tsL, msL, ms0, rtZ, sZ]
theorem list_tsnew {ops : Array Oper} {rest : List Oper} {o : Oper} {ac : Act} {Q : Exit → Act → World → Prop} {W : World} (hgd : o.guard = none) (ho : o.op = .alloc 56)
    (k : ∀ b W', Hid (W.heap.size = b) → Hid (SB TsK b tsz W') → Hid (Below W.heap.size W W') → wpList Try.prog ops Q rest (ac.put o.dst (.pointer (some ⟨b, 0, none⟩))) W') : wpList Try.prog ops Q (o :: rest) ac W := by
  refine wpList_plain hgd fun K hK => ?_
  unfold Oper.wp
  rw [tsnew_run ho]
  exact hK _ _ (k _ _ rfl (World.alloc_heap_new W _) ((Below.refl _ W).alloc (Nat.le_refl _) _))
theorem tsL_ms (x : Ts) (s : Sl) (i : Nat) (hi : i < 17) : (tsL x s)[3 + i]? = (msL x.m s)[i]? := by
  unfold tsL
  rw [List.getElem?_append_right (by simp), List.getElem?_append_left (by simp [msL]; omega)]
  simp
theorem ts_ms {W : World} {b : Nat} {x : Ts} {s : Sl} (h : SB TsK b (tsL x s) W) : ∀ j, j < PmK.k → W.cell? ⟨b, 3 + j, none⟩ = (msL x.m s)[j]? := fun j hj => by rw [h.cell]; exact tsL_ms x s j hj
/-- an operation that stands behind a condition that holds -/
theorem wpList_want {ops : Array Oper} {rest : List Oper} {o : Oper} {a : Act} {Q : Exit → Act → World → Prop} {w : World} (hw : Region.wanted o (yielded ops a.tmps) = true)
    (h : ∀ K : Act → World → Prop, (∀ a w, wpList Try.prog ops Q rest a w → K a w) → o.wp Try.prog a w K Q) : wpList Try.prog ops Q (o :: rest) a w :=
  wpList_step fun K hK => by rw [if_pos hw]; exact h K hK
theorem list_satw {ops : Array Oper} {rest : List Oper} {o : Oper} {ac : Act} {Q : Exit → Act → World → Prop} {W : World} (T : Sk) (hw : Region.wanted o (yielded ops ac.tmps) = true) (x : Operand) (ho : o.op = .load T.t x) {b k : Nat} {cs : List Value} (hx : ac.eval x = .pointer (some ⟨b, k, none⟩)) (h : ∀ j, j < T.k → W.cell? ⟨b, k + j, none⟩ = cs[j]?) (hl : cs.length = T.k)
    (kk : wpList Try.prog ops Q rest (ac.put o.dst (.agg cs.toArray)) W) : wpList Try.prog ops Q (o :: rest) ac W := by
  refine wpList_want hw fun K hK => ?_
  unfold Oper.wp
  rw [sat_run T x ho hx h hl]
  exact hK _ _ kk
theorem eqAr (w : World) : (Op.equalIn 10000 22 (.agg #[.int .i64 1, .int .i64 1]) (.agg #[.int .i64 1, .int .i64 1])).run Try.prog w = .ok true w := by
  have u3 := Try.underlying3
  have a3 := Try.isAgg3
  have z3 := Try.sizeOf3
  rw [show (10000 : Nat) = 9999 + 1 from rfl, Op.equalIn]
  simp only [Sem.run_bind, run_underlying Try.underlying22, Result.andThen_ok]
  simp only [Std.Legacy.Range.forIn_eq_forIn_range', Std.Legacy.Range.size, Nat.sub_zero, Nat.add_sub_cancel, Nat.div_one, List.range'_succ, List.range'_zero, List.forIn_cons, List.forIn_nil]
  go_simp
set_option maxRecDepth 100000 in
theorem neq2_run {o : Oper} (x y : Operand) (ho : o.op = .binOp .neq 22 x y 22) {ρ : Operand → Value} {W : World} (hx : ρ x = .agg #[.int .i64 1, .int .i64 1]) (hy : ρ y = .agg #[.int .i64 1, .int .i64 1]) : (execOp ρ o).run Try.prog W = .ok (.value (.bool false)) W := by
  unfold execOp
  rw [ho]
  simp [go_sem, hx, hy, eqAr]
theorem list_neq2w {ops : Array Oper} {rest : List Oper} {o : Oper} {ac : Act} {Q : Exit → Act → World → Prop} {W : World} (hw : Region.wanted o (yielded ops ac.tmps) = true) (x y : Operand) (ho : o.op = .binOp .neq 22 x y 22) (hx : ac.eval x = .agg #[.int .i64 1, .int .i64 1]) (hy : ac.eval y = .agg #[.int .i64 1, .int .i64 1])
    (kk : wpList Try.prog ops Q rest (ac.put o.dst (.bool false)) W) : wpList Try.prog ops Q (o :: rest) ac W := by
  refine wpList_want hw fun K hK => ?_
  unfold Oper.wp
  rw [neq2_run x y ho hx hy]
  exact hK _ _ kk
/-- within the loop -/
structure LT (w : World) (N : Nat) (w9 : World) (bt : Nat) (c9 : Cp) (d0 i0 h0 d1 i1 h1 : Int) (j : Nat) (wr : World) (t : Tl) (c : Cp) : Prop where
  ti : TI N wr bt t c
  kl : Kl w9 wr bt c9 c
  v : ∃ x0 x1 y0 y1 o0 o1 g0 g1, vw t = vX d0 i0 h0 d1 i1 h1 x0 x1 y0 y1 o0 o1 g0 g1 ∧ Dir g1 y0 x0 o0 ∧ Dir g0 y1 x1 o1 ∧ g0.length ≤ j ∧ g1.length ≤ j
  gv : ∀ i, i < 2 → ∀ p ∈ c.h i, MOk w p.1 p.2
theorem LT.bd {w : World} {N : Nat} {w9 : World} {bt : Nat} {c9 : Cp} {d0 i0 h0 d1 i1 h1 : Int} {j : Nat} {wr : World} {t : Tl} {c : Cp} (h : LT w N w9 bt c9 d0 i0 h0 d1 i1 h1 j wr t c) (hj : j ≤ 60) : Bd t ∧ t.clk = 0 := by
  obtain ⟨x0, x1, y0, y1, o0, o1, g0, g1, hv, D0, D1, l0, l1⟩ := h.v
  exact ⟨Bv.bd (by rw [hv]; exact vX_bv D0 D1 ⟨by omega, by omega⟩), (vw_parts hv).2.2.2.2.2⟩
/-- nothing has turned -/
theorem LT.bel {w : World} {N : Nat} {w9 : World} {bt : Nat} {c9 : Cp} {d0 i0 h0 d1 i1 h1 : Int} {j : Nat} {wr wr' : World} {t : Tl} {c : Cp} (h : LT w N w9 bt c9 d0 i0 h0 d1 i1 h1 j wr t c) (hb : Below wr.heap.size wr wr') : LT w N w9 bt c9 d0 i0 h0 d1 i1 h1 j wr' t c :=
  ⟨h.ti.bel hb, h.kl.trans (Kl.bel hb), h.v, h.gv⟩
theorem LT.next {w : World} {N : Nat} {w9 : World} {bt : Nat} {c9 : Cp} {d0 i0 h0 d1 i1 h1 : Int} {j : Nat} {wr : World} {t : Tl} {c : Cp} (h : LT w N w9 bt c9 d0 i0 h0 d1 i1 h1 j wr t c) : LT w N w9 bt c9 d0 i0 h0 d1 i1 h1 (j + 1) wr t c := by
  obtain ⟨x0, x1, y0, y1, o0, o1, g0, g1, hv, D0, D1, l0, l1⟩ := h.v
  exact ⟨h.ti, h.kl, ⟨x0, x1, y0, y1, o0, o1, g0, g1, hv, D0, D1, by omega, by omega⟩, h.gv⟩
theorem LT.come0 {w : World} {N : Nat} {w9 : World} {bt : Nat} {c9 : Cp} {d0 i0 h0 d1 i1 h1 : Int} (hs : Hs d0 i0 h0 d1 i1 h1) {j : Nat} {wr wr' : World} {t : Tl} {c c' : Cp} {k : Nat} (h : LT w N w9 bt c9 d0 i0 h0 d1 i1 h1 j wr t c) (ht : TI N wr' bt (comesP t 0 k) c') (hk : Kl wr wr' bt c c') (hb : c'.h = c.h) : LT w N w9 bt c9 d0 i0 h0 d1 i1 h1 (j + 1) wr' (comesP t 0 k) c' := by
  obtain ⟨x0, x1, y0, y1, o0, o1, g0, g1, hv, D0, D1, l0, l1⟩ := h.v
  obtain ⟨x, o, e1, e2⟩ := com0_X (i0 := i0) (d0 := d0) (d1 := d1) (i1 := i1) hs.w.1 (x1 := x1) (y1 := y1) (o1 := o1) (g0 := g0) D0 k
  refine ⟨ht, h.kl.trans hk, ⟨x, x1, y0.drop k, y1, o, o1, g0, g1, ?_, e2, D1, by omega, by omega⟩, by rw [hb]; exact h.gv⟩
  rw [vw_com0, hv]
  exact e1
theorem LT.come1 {w : World} {N : Nat} {w9 : World} {bt : Nat} {c9 : Cp} {d0 i0 h0 d1 i1 h1 : Int} (hs : Hs d0 i0 h0 d1 i1 h1) {j : Nat} {wr wr' : World} {t : Tl} {c c' : Cp} {k : Nat} (h : LT w N w9 bt c9 d0 i0 h0 d1 i1 h1 j wr t c) (ht : TI N wr' bt (comesP t 1 k) c') (hk : Kl wr wr' bt c c') (hb : c'.h = c.h) : LT w N w9 bt c9 d0 i0 h0 d1 i1 h1 (j + 1) wr' (comesP t 1 k) c' := by
  obtain ⟨x0, x1, y0, y1, o0, o1, g0, g1, hv, D0, D1, l0, l1⟩ := h.v
  obtain ⟨x, o, e1, e2⟩ := com1_X (i0 := i0) (d0 := d0) (d1 := d1) (i1 := i1) hs.w.2 (x0 := x0) (y0 := y0) (o0 := o0) (g1 := g1) D1 k
  refine ⟨ht, h.kl.trans hk, ⟨x0, x, y0, y1.drop k, o0, o, g0, g1, ?_, D0, e2, by omega, by omega⟩, by rw [hb]; exact h.gv⟩
  rw [vw_com1, hv]
  exact e1
theorem LT.lo {w : World} {N : Nat} {w9 : World} {bt : Nat} {c9 : Cp} {d0 i0 h0 d1 i1 h1 : Int} {j : Nat} {wr : World} {t : Tl} {c : Cp} (h : LT w N w9 bt c9 d0 i0 h0 d1 i1 h1 j wr t c) (hN : N ≤ w9.heap.size) (hw : w.heap.size ≤ N) (hl : ∀ g, c9.A bt g → N ≤ g) : ∀ g, c.A bt g → w.heap.size ≤ g := fun g hg => by
  rcases h.kl.now g hg with e | e
  · have := hl g e; omega
  · omega
theorem LT.tell0 {w : World} {N : Nat} {w9 : World} {bt : Nat} {c9 : Cp} {d0 i0 h0 d1 i1 h1 : Int} (hs : Hs d0 i0 h0 d1 i1 h1) {j : Nat} {wr : World} {t : Tl} {c : Cp} (h : LT w N w9 bt c9 d0 i0 h0 d1 i1 h1 j wr t c) {m : Ms} (hin : InM m) : ∃ b er, tmP (t.s 0) m t.clk = ((t.s 0, ⟨b, []⟩), er) ∧ (∀ d ∈ b, d < 256) ∧ b.length ≤ 1024 ∧ (er ≠ 0 → ∀ wr' c', TI N wr' bt (outP (sesP t 0 (t.s 0)) 0 ⟨b, []⟩) c' → Kl w9 wr' bt c9 c' → c'.h = c.h → LT w N w9 bt c9 d0 i0 h0 d1 i1 h1 (j + 1) wr' (outP (sesP t 0 (t.s 0)) 0 ⟨b, []⟩) c') ∧ (er = 0 → ((outP (sesP t 0 (t.s 0)) 0 ⟨b, []⟩).g 0).length ≤ j ∧ ∀ wr' c', TI N wr' bt (givT (outP (sesP t 0 (t.s 0)) 0 ⟨b, []⟩) 0 m) c' → Kl w9 wr' bt c9 c' → (∀ i, i < 2 → ∀ p ∈ c'.h i, MOk w p.1 p.2) → LT w N w9 bt c9 d0 i0 h0 d1 i1 h1 (j + 1) wr' (givT (outP (sesP t 0 (t.s 0)) 0 ⟨b, []⟩) 0 m) c') := by
  obtain ⟨x0, x1, y0, y1, o0, o1, g0, g1, hv, D0, D1, l0, l1⟩ := h.v
  obtain ⟨b, er, hP, hu, hl, hy, hn⟩ := tellv0 hs hv m
  refine ⟨b, er, hP, hu, hl, fun he wr' c' ht hk hb => ⟨ht, hk, ⟨x0, x1, y0, y1, o0, o1, g0, g1, hn he, D0, D1, by omega, by omega⟩, by rw [hb]; exact h.gv⟩, fun he => ?_⟩
  obtain ⟨hk2, he2, hv2⟩ := hy he
  refine ⟨by rw [(vw_parts hv2).2.2.2.2.1.1]; exact l0, fun wr' c' ht hk hg => ⟨ht, hk, ⟨x0, x1, y0, y1 ++ encB m, o0, o1, g0 ++ [m], g1, ?_, D0, D1.more ⟨he2, hin, hk2⟩, by rw [List.length_append]; simp; omega, by omega⟩, hg⟩⟩
  obtain ⟨T, hT⟩ : ∃ y, outP (sesP t 0 (t.s 0)) 0 ⟨b, []⟩ = y := ⟨_, rfl⟩
  rw [hT] at hv2 ⊢
  have e : vw (givT T 0 m) = { vw T with g0 := T.g 0 ++ [m] } := rfl
  have e2 : T.g 0 = g0 := (vw_parts hv2).2.2.2.2.1.1
  rw [e, e2, hv2]
  rfl
theorem LT.tell1 {w : World} {N : Nat} {w9 : World} {bt : Nat} {c9 : Cp} {d0 i0 h0 d1 i1 h1 : Int} (hs : Hs d0 i0 h0 d1 i1 h1) {j : Nat} {wr : World} {t : Tl} {c : Cp} (h : LT w N w9 bt c9 d0 i0 h0 d1 i1 h1 j wr t c) {m : Ms} (hin : InM m) : ∃ b er, tmP (t.s 1) m t.clk = ((t.s 1, ⟨b, []⟩), er) ∧ (∀ d ∈ b, d < 256) ∧ b.length ≤ 1024 ∧ (er ≠ 0 → ∀ wr' c', TI N wr' bt (outP (sesP t 1 (t.s 1)) 1 ⟨b, []⟩) c' → Kl w9 wr' bt c9 c' → c'.h = c.h → LT w N w9 bt c9 d0 i0 h0 d1 i1 h1 (j + 1) wr' (outP (sesP t 1 (t.s 1)) 1 ⟨b, []⟩) c') ∧ (er = 0 → ((outP (sesP t 1 (t.s 1)) 1 ⟨b, []⟩).g 1).length ≤ j ∧ ∀ wr' c', TI N wr' bt (givT (outP (sesP t 1 (t.s 1)) 1 ⟨b, []⟩) 1 m) c' → Kl w9 wr' bt c9 c' → (∀ i, i < 2 → ∀ p ∈ c'.h i, MOk w p.1 p.2) → LT w N w9 bt c9 d0 i0 h0 d1 i1 h1 (j + 1) wr' (givT (outP (sesP t 1 (t.s 1)) 1 ⟨b, []⟩) 1 m) c') := by
  obtain ⟨x0, x1, y0, y1, o0, o1, g0, g1, hv, D0, D1, l0, l1⟩ := h.v
  obtain ⟨b, er, hP, hu, hl, hy, hn⟩ := tellv1 hs hv m
  refine ⟨b, er, hP, hu, hl, fun he wr' c' ht hk hb => ⟨ht, hk, ⟨x0, x1, y0, y1, o0, o1, g0, g1, hn he, D0, D1, by omega, by omega⟩, by rw [hb]; exact h.gv⟩, fun he => ?_⟩
  obtain ⟨hk2, he2, hv2⟩ := hy he
  refine ⟨by rw [(vw_parts hv2).2.2.2.2.1.2]; exact l1, fun wr' c' ht hk hg => ⟨ht, hk, ⟨x0, x1, y0 ++ encB m, y1, o0, o1, g0, g1 ++ [m], ?_, D0.more ⟨he2, hin, hk2⟩, D1, by omega, by rw [List.length_append]; simp; omega⟩, hg⟩⟩
  obtain ⟨T, hT⟩ : ∃ y, outP (sesP t 1 (t.s 1)) 1 ⟨b, []⟩ = y := ⟨_, rfl⟩
  rw [hT] at hv2 ⊢
  have e : vw (givT T 1 m) = { vw T with g1 := T.g 1 ++ [m] } := rfl
  have e2 : T.g 1 = g1 := (vw_parts hv2).2.2.2.2.1.2
  rw [e, e2, hv2]
  rfl
theorem giv_gv {w : World} {c : Cp} {q : Nat} {v : Value} {m : Ms} {sl : Sl} (h : ∀ i, i < 2 → ∀ p ∈ c.h i, MOk w p.1 p.2) (hm : MOk w m sl) : ∀ i, i < 2 → ∀ p ∈ (givC c q v m sl).h i, MOk w p.1 p.2 := fun i hi p hp => by
  by_cases e : i = q
  · subst e
    have hp2 : p ∈ upd c.h i (c.h i ++ [(m, sl)]) i := hp
    rw [upd_at] at hp2
    rcases List.mem_append.1 hp2 with h2 | h2
    · exact h i hi p h2
    · rw [List.mem_singleton] at h2; subst h2; exact hm
  · have hp2 : p ∈ upd c.h q (c.h q ++ [(m, sl)]) i := hp
    rw [upd_ne _ _ e] at hp2
    exact h i hi p hp2
theorem TC.keep {bt : Nat} {c : Cp} {k : Int} {w w' : World} (h : TC bt c k w) (hb : w'.heap[bt]? = w.heap[bt]?) : TC bt c k w' := by
  unfold TC World.cell? at *
  rw [hb]
  exact h
set_option maxRecDepth 100000 in
set_option maxHeartbeats 64000000 in
theorem stalks_any (D0 D1 I0 I1 H0 H1 fst : Int) (vl : Option Addr) (nl cl : Nat) (L : List (Ts × Sl)) (w : World) (hd0 : -9223372036854775808 ≤ D0 ∧ D0 < 9223372036854775808) (hd1 : -9223372036854775808 ≤ D1 ∧ D1 < 9223372036854775808) (hi0 : -9223372036854775808 ≤ I0 ∧ I0 < 9223372036854775808) (hi1 : -9223372036854775808 ≤ I1 ∧ I1 < 9223372036854775808) (hh0 : -9223372036854775808 ≤ H0 ∧ H0 < 9223372036854775808) (hh1 : -9223372036854775808 ≤ H1 ∧ H1 < 9223372036854775808) (hfs : -9223372036854775808 ≤ fst ∧ fst < 9223372036854775808) (hln : L.length = nl) (hls : LstT w vl L) (hlo : ∀ q ∈ L, TsOk w q ∧ BuM 1048576 q.1.m) (hnl : nl ≤ 9223372036854775807) :
    Calls Try.prog 3 #[.agg #[.int .i64 D0, .int .i64 D1], .agg #[.int .i64 I0, .int .i64 I1], .agg #[.int .i64 H0, .int .i64 H1], .int .i64 fst, .slice vl nl cl] w fun e w' => e = .returned (.bool true) ∧ Below w.heap.size w w' := by
  obtain ⟨d0, i0, h0, d1, i1, h1, hcg, hhs, hr0, hr1, hl0, hl1⟩ := cfg_ok D0 D1 I0 I1 H0 H1
  have HCG : Hid (∀ W, Calls Try.prog 6 #[.agg #[.int .i64 D0, .int .i64 D1], .agg #[.int .i64 I0, .int .i64 I1], .agg #[.int .i64 H0, .int .i64 H1]] W fun e w' => e = .returned (.agg [.int .i64 d0, .int .i64 i0, .int .i64 h0, .int .i64 d1, .int .i64 d1, .int .i64 i1, .int .i64 h1, .int .i64 d0].toArray) ∧ Below W.heap.size W w') := fun W => cfgs_any D0 D1 I0 I1 H0 H1 W hd0 hd1 hi0 hi1 hh0 hh1 _ hcg
  have HHS : Hid (Hs d0 i0 h0 d1 i1 h1) := hhs
  have HR0 : Hid (Rc d0 i0 h0 d1) := hr0
  have HR1 : Hid (Rc d1 i1 h1 d0) := hr1
  have HLS : Hid (LstT w vl L) := hls
  have HLN : Hid (L.length = nl) := hln
  have HLK : Hid (∀ q ∈ L, TsOk w q ∧ BuM 1048576 q.1.m) := hlo
  have HMF : Hid (∀ W (k : Nat), md fst 2 = k → Calls Try.prog 8 #[.int .i64 fst, .int .i64 2] W fun e w' => e = .returned (.int .i64 (k : Int)) ∧ w' = W) := fun W k hk => mod_any fst hfs 2 (by omega) (by omega) k hk W
  clear hd0 hd1 hi0 hi1 hh0 hh1 hcg hhs hr0 hr1 hls hln hlo hl0 hl1 hfs
  go_enter Try.func3, Try.ntmps3
  go_wp2_with (refine list_sbox ArK rfl _ rfl (cs := [.int .i64 D0, .int .i64 D1]) rfl ?_)
  intro w3 hx3 hb3 hz3
  clear hz3
  obtain ⟨b3, hb3e⟩ : ∃ y, w.heap.size = y := ⟨_, rfl⟩
  rw [hb3e]
  go_wp2_with (refine list_sbox ArK rfl _ rfl (cs := [.int .i64 I0, .int .i64 I1]) rfl ?_)
  intro w4 hx4 hb4 hz4
  clear hz4
  obtain ⟨b4, hb4e⟩ : ∃ y, w3.heap.size = y := ⟨_, rfl⟩
  rw [hb4e]
  go_wp2_with (refine list_sbox ArK rfl _ rfl (cs := [.int .i64 H0, .int .i64 H1]) rfl ?_)
  intro w5 hx5 hb5 hz5
  clear hz5
  obtain ⟨b5, hb5e⟩ : ∃ y, w4.heap.size = y := ⟨_, rfl⟩
  rw [hb5e]
  have HBE5 : Hid (Below w.heap.size w w5) := by
    have q1 := hb3.out
    have q2 := q1.trans (hb4.out.mono q1.size)
    exact q2.trans (hb5.out.mono q2.size)
  have HX3 : Hid (SB ArK b3 [.int .i64 D0, .int .i64 D1] w5) := by
    have h := hx3.out
    rw [hb3e] at h
    have h2 := h.blk (hb4.out.block _ h.lt)
    exact h2.blk (hb5.out.block _ h2.lt)
  have HX4 : Hid (SB ArK b4 [.int .i64 I0, .int .i64 I1] w5) := by
    have h := hx4.out
    rw [hb4e] at h
    exact h.blk (hb5.out.block _ h.lt)
  have HX5 : Hid (SB ArK b5 [.int .i64 H0, .int .i64 H1] w5) := by
    have h := hx5.out
    rw [hb5e] at h
    exact h
  clear hx3 hb3 hb3e hx4 hb4 hb4e hx5 hb5 hb5e
  by_cases hbig : 60 < nl
  · have hbi : (60 : Int) < (nl : Int) := by omega
    go_wp2_with fail
    go_ret
    exact ⟨rfl, HBE5.out⟩
  · have hbi : ¬ (60 : Int) < (nl : Int) := by omega
    go_wp2_with (first | (refine list_sload ArK rfl _ rfl (b := b3) (cs := [.int .i64 D0, .int .i64 D1]) rfl HX3.out rfl ?_) | (refine list_sload ArK rfl _ rfl (b := b4) (cs := [.int .i64 I0, .int .i64 I1]) rfl HX4.out rfl ?_) | (refine list_sload ArK rfl _ rfl (b := b5) (cs := [.int .i64 H0, .int .i64 H1]) rfl HX5.out rfl ?_))
    refine (HCG.out w5).mono ?_
    rintro e w6 ⟨rfl, hb6⟩
    have HBE6 : Hid (Below w.heap.size w w6) := HBE5.out.trans (hb6.mono HBE5.out.size)
    clear hb6 HX3 HX4 HX5
    go_wp2_with (refine list_cnew rfl rfl ?_)
    intro bc w7 hbc hx7 hb7
    go_wp2_with (refine list_sstore CgK rfl _ _ rfl (b := bc) (cs := c8z) (cs' := [.int .i64 d0, .int .i64 i0, .int .i64 h0, .int .i64 d1, .int .i64 d1, .int .i64 i1, .int .i64 h1, .int .i64 d0]) rfl rfl hx7.out rfl rfl rfl ?_)
    intro w8 hx8 hk8
    have HX8 : Hid (SB CgK bc [.int .i64 d0, .int .i64 i0, .int .i64 h0, .int .i64 d1, .int .i64 d1, .int .i64 i1, .int .i64 h1, .int .i64 d0] w8) := hx8.out
    have HBC : Hid (w.heap.size ≤ bc) := by show _ ≤ _; have := hbc.out; have := HBE6.out.size; omega
    have HBE8 : Hid (Below w.heap.size w w8) := (HBE6.out.trans (hb7.out.mono HBE6.out.size)).trans (hk8.out.below HBC.out)
    clear hbc hx7 hb7 hx8 hk8
    have HTN := tnew_any d0 i0 h0 d1 d1 i1 h1 d0 w8 HR0.out HR1.out
    go_wp2_with (refine list_sload CgK rfl _ rfl (b := bc) (cs := [.int .i64 d0, .int .i64 i0, .int .i64 h0, .int .i64 d1, .int .i64 d1, .int .i64 i1, .int .i64 h1, .int .i64 d0]) rfl HX8.out rfl ?_)
    refine HTN.mono ?_
    rintro e w9 ⟨bt, b0, b1, rfl, hti, hb9, hlo⟩
    have HTI : Hid (TI w8.heap.size w9 bt (newT (newS d0 i0 h0 d1) (newS d1 i1 h1 d0)) (newC b0 b1)) := hti
    have HBE9 : Hid (Below w.heap.size w w9) := HBE8.out.trans (hb9.mono HBE8.out.size)
    have HX9 : Hid (SB CgK bc [.int .i64 d0, .int .i64 i0, .int .i64 h0, .int .i64 d1, .int .i64 d1, .int .i64 i1, .int .i64 h1, .int .i64 d0] w9) := HX8.out.blk (hb9.block bc HX8.out.lt)
    have HLO : Hid (∀ g, (newC b0 b1).A bt g → w8.heap.size ≤ g) := hlo
    have hb9z := hb9.size
    have HBCL : Hid (bc < w8.heap.size) := HX8.out.lt
    clear HTN hti hb9 hlo
    have HNS : Hid (w8.heap.size ≤ w9.heap.size) := hb9z
    obtain ⟨t0, ht0⟩ : ∃ y, newT (newS d0 i0 h0 d1) (newS d1 i1 h1 d0) = y := ⟨_, rfl⟩
    have HT0 : Hid (newT (newS d0 i0 h0 d1) (newS d1 i1 h1 d0) = t0) := ht0
    rw [ht0] at HTI
    obtain ⟨c9, hc9⟩ : ∃ y, newC b0 b1 = y := ⟨_, rfl⟩
    have HH9 : Hid (∀ i, c9.h i = []) := by rw [← hc9]; exact fun _ => rfl
    rw [hc9] at HTI HLO
    have HN : Hid (w8.heap.size ≤ w9.heap.size ∧ w.heap.size ≤ w8.heap.size) := ⟨HNS.out, HBE8.out.size⟩
    clear ht0 hc9 HX9 HX8 HBE6 HBE5 HCG HR0 HR1 HBCL HBC HBE8 HNS
    have lz : nl ≤ 60 := by omega
    have hfk : md fst 2 = 0 ∨ md fst 2 = 1 := by have := @md_lt fst 2 (by omega); omega
    go_wp2_with fail
    rcases hfk with hfk | hfk
    case' inl =>
      refine (HMF.out w9 0 hfk).mono ?_
      rintro e w' ⟨rfl, hw'⟩
      rw [hw']
      clear hw' w' HMF hfk
      have hv1 : vw (startT t0 0 0) = ⟨opS d0 i0 h0 d1, newS d1 i1 h1 d0, [], encB (opn (newS d0 i0 h0 d1)), 0, 0, [], [], [], [], 0⟩ := by rw [← HT0.out]; exact vw_start0 HHS.out
      have HV1 : Hid (_ = _) := hv1
      have HST := start0_out w8.heap.size bt t0 c9 w9 HTI.out HN.out.1 (by rw [← HT0.out]; exact Nat.zero_le _) (by rw [← HT0.out]; exact Nat.zero_le _) (by rw [← HT0.out]; show (0 : Int) ≤ 0 ∧ (0 : Int) ≤ _; decide)
      have c0 : w9.cell? ⟨bt, 0, none⟩ = some (.pointer (some ⟨c9.b 0, 0, none⟩)) := HTI.out.box.cell 0
      clear hv1
      go_wp2_with fail
      refine HST.mono ?_
      rintro e w10 ⟨vb, ve, rfl, hmid⟩
      have HOUT := hmid.2.2
      clear HST hmid c0
      go_wp2_with fail
      refine HOUT.mono ?_
      rintro e w11 ⟨rfl, c2, ht2, hk2, hb2⟩
      obtain ⟨t1, ht1⟩ : ∃ y, startT t0 0 0 = y := ⟨_, rfl⟩
      have HT1 : Hid (startT t0 0 0 = t1) := ht1
      rw [ht1] at ht2 HV1
      have HT2 : Hid (TI w8.heap.size w11 bt t1 c2) := ht2
      have HK2 : Hid (Kl w9 w11 bt c9 c2) := hk2
      have HB2 : Hid (c2.b = c9.b ∧ c2.h = c9.h) := hb2
      have HN11 : Hid (w8.heap.size ≤ w11.heap.size) := Nat.le_trans HN.out.1 hk2.str.size
      clear HOUT ht1 ht2 hk2 hb2
      have HST := start1_out w8.heap.size bt t1 c2 w11 HT2.out HN11.out (by rw [(vw_parts HV1.out).2.1.1]; exact Nat.zero_le _) (by rw [(vw_parts HV1.out).2.2.2.1.2]; exact Nat.zero_le _) (by rw [(vw_parts HV1.out).2.2.1.2]; show (0 : Int) ≤ 0 ∧ (0 : Int) ≤ _; decide)
      have c0 : w11.cell? ⟨bt, 1, none⟩ = some (.pointer (some ⟨c2.b 1, 0, none⟩)) := HT2.out.box.cell 1
      go_wp2_with fail
      refine HST.mono ?_
      rintro e w12 ⟨vb, ve, rfl, hmid⟩
      have HOUT := hmid.2.2
      clear HST hmid c0
      go_wp2_with fail
      refine HOUT.mono ?_
      rintro e w13 ⟨rfl, c4, ht4, hk4, hb4⟩
      obtain ⟨t2, ht2⟩ : ∃ y, startT t1 1 0 = y := ⟨_, rfl⟩
      have hv2 : vw t2 = v1 d0 i0 h0 d1 i1 h1 := by rw [← ht2, ← HT1.out, ← HT0.out]; exact vw_start HHS.out
      rw [ht2] at ht4
      have HT4 : Hid (TI w8.heap.size w13 bt t2 c4) := ht4
      have HK4 : Hid (Kl w9 w13 bt c9 c4) := HK2.out.trans hk4
      have HB4 : Hid (c4.h = c9.h) := hb4.2.trans HB2.out.2
      clear HOUT ht2 ht4 hk4 hb4 HT2 HK2 HB2 HN11 HV1 HT1
    case' inr =>
      refine (HMF.out w9 1 hfk).mono ?_
      rintro e w' ⟨rfl, hw'⟩
      rw [hw']
      clear hw' w' HMF hfk
      have hv1 : vw (startT t0 1 0) = ⟨newS d0 i0 h0 d1, opS d1 i1 h1 d0, encB (opn (newS d1 i1 h1 d0)), [], 0, 0, [], [], [], [], 0⟩ := by rw [← HT0.out]; exact vw_start1 HHS.out
      have HV1 : Hid (_ = _) := hv1
      have HST := start1_out w8.heap.size bt t0 c9 w9 HTI.out HN.out.1 (by rw [← HT0.out]; exact Nat.zero_le _) (by rw [← HT0.out]; exact Nat.zero_le _) (by rw [← HT0.out]; show (0 : Int) ≤ 0 ∧ (0 : Int) ≤ _; decide)
      have c0 : w9.cell? ⟨bt, 1, none⟩ = some (.pointer (some ⟨c9.b 1, 0, none⟩)) := HTI.out.box.cell 1
      clear hv1
      go_wp2_with fail
      refine HST.mono ?_
      rintro e w10 ⟨vb, ve, rfl, hmid⟩
      have HOUT := hmid.2.2
      clear HST hmid c0
      go_wp2_with fail
      refine HOUT.mono ?_
      rintro e w11 ⟨rfl, c2, ht2, hk2, hb2⟩
      obtain ⟨t1, ht1⟩ : ∃ y, startT t0 1 0 = y := ⟨_, rfl⟩
      have HT1 : Hid (startT t0 1 0 = t1) := ht1
      rw [ht1] at ht2 HV1
      have HT2 : Hid (TI w8.heap.size w11 bt t1 c2) := ht2
      have HK2 : Hid (Kl w9 w11 bt c9 c2) := hk2
      have HB2 : Hid (c2.b = c9.b ∧ c2.h = c9.h) := hb2
      have HN11 : Hid (w8.heap.size ≤ w11.heap.size) := Nat.le_trans HN.out.1 hk2.str.size
      clear HOUT ht1 ht2 hk2 hb2
      have HST := start0_out w8.heap.size bt t1 c2 w11 HT2.out HN11.out (by rw [(vw_parts HV1.out).2.1.2]; exact Nat.zero_le _) (by rw [(vw_parts HV1.out).2.2.2.1.1]; exact Nat.zero_le _) (by rw [(vw_parts HV1.out).2.2.1.1]; show (0 : Int) ≤ 0 ∧ (0 : Int) ≤ _; decide)
      have c0 : w11.cell? ⟨bt, 0, none⟩ = some (.pointer (some ⟨c2.b 0, 0, none⟩)) := HT2.out.box.cell 0
      go_wp2_with fail
      refine HST.mono ?_
      rintro e w12 ⟨vb, ve, rfl, hmid⟩
      have HOUT := hmid.2.2
      clear HST hmid c0
      go_wp2_with fail
      refine HOUT.mono ?_
      rintro e w13 ⟨rfl, c4, ht4, hk4, hb4⟩
      obtain ⟨t2, ht2⟩ : ∃ y, startT t1 0 0 = y := ⟨_, rfl⟩
      have hv2 : vw t2 = v1 d0 i0 h0 d1 i1 h1 := by rw [← ht2, ← HT1.out, ← HT0.out]; exact vw_start10 HHS.out
      rw [ht2] at ht4
      have HT4 : Hid (TI w8.heap.size w13 bt t2 c4) := ht4
      have HK4 : Hid (Kl w9 w13 bt c9 c4) := HK2.out.trans hk4
      have HB4 : Hid (c4.h = c9.h) := hb4.2.trans HB2.out.2
      clear HOUT ht2 ht4 hk4 hb4 HT2 HK2 HB2 HN11 HV1 HT1
    all_goals
      obtain ⟨bd1, bd2, hv20⟩ := opens_bd HHS.out hv2
      have HSE := settle_any w8.heap.size bt t2 c4 w13 HT4.out (Nat.le_trans HN.out.1 HK4.out.str.size) bd1 bd2 true (rest_true (vw_y hv20).1 (vw_y hv20).2)
      have HV20 : Hid (vw (bothN 20 t2) = vX d0 i0 h0 d1 i1 h1 [] [] [] [] [] [] [] []) := hv20
      clear hv2 bd1 bd2 hv20
      go_wp2_with fail
      refine HSE.mono ?_
      rintro e w14 ⟨rfl, c5, hsi⟩
      obtain ⟨t3, ht3⟩ : ∃ y, bothN 20 t2 = y := ⟨_, rfl⟩
      rw [ht3] at hsi HV20
      clear ht3
      have HLT0 : Hid (LT w w8.heap.size w9 bt c9 d0 i0 h0 d1 i1 h1 0 w14 t3 c5) := ⟨hsi.ti, HK4.out.trans hsi.k, ⟨[], [], [], [], [], [], [], [], HV20.out, Dir.nil, Dir.nil, Nat.le_refl _, Nat.le_refl _⟩, fun i _ p hp => by rw [hsi.h, HB4.out, HH9.out i] at hp; cases hp⟩
      have s0 : w14.cell? ⟨bt, 0, none⟩ = some (.pointer (some ⟨c5.b 0, 0, none⟩)) := hsi.ti.tc.1
      have s1 : w14.cell? ⟨bt, 1, none⟩ = some (.pointer (some ⟨c5.b 1, 0, none⟩)) := hsi.ti.tc.2.1
      have HU : Hid (∀ j, j < ArK.k → w14.cell? ⟨bt, 8 + j, none⟩ = ([.int .i64 1, .int .i64 1] : List Value)[j]?) := fun j hj => by
        have e0 : w14.cell? ⟨bt, 8, none⟩ = some (.int .i64 (t3.u 0)) := hsi.ti.box.cell 8
        have e1 : w14.cell? ⟨bt, 9, none⟩ = some (.int .i64 (t3.u 1)) := hsi.ti.box.cell 9
        rw [(vw_parts HV20.out).2.2.1.1] at e0
        rw [(vw_parts HV20.out).2.2.1.2] at e1
        have hj2 : j < 2 := hj
        match j, hj2 with
        | 0, _ => exact e0
        | 1, _ => exact e1
      have HS0 := state_any (c5.b 0) 3 w14 (hsi.ti.state 0 (by omega) (by rw [(vw_parts HV20.out).1.1]; rfl))
      have HS1 := state_any (c5.b 1) 3 w14 (hsi.ti.state 1 (by omega) (by rw [(vw_parts HV20.out).1.2]; rfl))
      clear hsi HSE HT4 HK4 HB4 HV20 HTI HT0 HH9
      go_wp2_with (first | (refine list_satw ArK rfl _ rfl (b := bt) (k := 8) (cs := [.int .i64 1, .int .i64 1]) rfl HU.out rfl ?_) | (refine list_neq2w rfl _ _ rfl rfl rfl ?_))
      refine HS0.mono ?_
      rintro e w' ⟨rfl, hw'⟩
      rw [hw']
      clear hw' w' HS0
      go_wp2_with fail
      refine HS1.mono ?_
      rintro e w' ⟨rfl, hw'⟩
      rw [hw']
      clear hw' w' HS1
      go_wp2_with fail
      clear s0 s1 HU
      go_loopw [89] (fun kv wr => ∃ (j : Nat) (t : Tl) (c : Cp), j ≤ nl ∧ kv = .int .i64 (j : Int) ∧ LT w w8.heap.size w9 bt c9 d0 i0 h0 d1 i1 h1 j wr t c) (fun k _ => nl - (intOf k).toNat)
      case atStart => exact ⟨0, t3, c5, Nat.zero_le _, rfl, HLT0.out⟩
      case round =>
        obtain ⟨j, tq, cq, hj, rfl, hlt⟩ := hrel
        have HL : Hid (LT w w8.heap.size w9 bt c9 d0 i0 h0 d1 i1 h1 j wr tq cq) := hlt
        clear hlt HLT0
        obtain ⟨wq, hwq⟩ : ∃ y, wr = y := ⟨_, rfl⟩
        rw [hwq] at HL ⊢
        clear hwq
        have HBW : Hid (Below w.heap.size w wq) := HBE9.out.trans ((HL.out.kl.below HN.out.1 HLO.out).mono HN.out.2)
        by_cases hjl : j < nl
        case pos =>
          have hjli : (j : Int) < (nl : Int) := by omega
          have hj0 : (0 : Int) ≤ (j : Int) := by omega
          have HJL : Hid (j < L.length) := by rw [HLN.out]; exact hjl
          obtain ⟨lb, lo, rfl, -, hcl⟩ := (HLS.out.bel HBW.out).cells j HJL.out
          obtain ⟨x, hx⟩ : ∃ y, L[j]'HJL.out = y := ⟨_, rfl⟩
          have hxm : x ∈ L := hx ▸ List.getElem_mem HJL.out
          rw [hx] at hcl
          obtain ⟨x, xs⟩ := x
          have HXO : Hid (TsOk w (x, xs) ∧ BuM 1048576 x.m) := HLK.out _ hxm
          have HCL : Hid (∀ i, i < TsK.k → wq.cell? ⟨lb, lo + j * 21 + i, none⟩ = (tsL x xs)[i]?) := hcl
          clear hcl hx hxm HJL
          go_wp2_with (first | (refine list_sat TsK rfl _ rfl (b := lb) (k := lo + j * 21) (cs := tsL x xs) rfl HCL.out rfl ?_) | (refine list_tsnew rfl rfl ?_))
          intro bx w2 hbx hx2 hb2
          go_wp2_with (refine list_sstore TsK rfl _ _ rfl (b := bx) (cs := tsz) (cs' := tsL x xs) rfl rfl hx2.out rfl rfl rfl ?_)
          intro w3 hx3 hk3
          have HXB : Hid (SB TsK bx (tsL x xs) w3) := hx3.out
          have HB3 : Hid (Below wq.heap.size wq w3) := hb2.out.trans (hk3.out.below (by have := hbx.out; omega))
          have HL3 : Hid (LT w w8.heap.size w9 bt c9 d0 i0 h0 d1 i1 h1 j w3 tq cq) := HL.out.bel HB3.out
          have HBX : Hid (∀ g, cq.A bt g → g < bx) := fun g hg => by have := HL.out.ti.lt g hg; have := hbx.out; omega
          have HBW3 : Hid (Below w.heap.size w w3) := HBW.out.trans (HB3.out.mono HBW.out.size)
          have HN3 : Hid (w8.heap.size ≤ w3.heap.size) := Nat.le_trans HN.out.1 HL3.out.kl.str.size
          have HBXN : Hid (w9.heap.size ≤ bx) := by show _ ≤ _; have := hbx.out; have := HL.out.kl.str.size; omega
          clear hx2 hb2 hx3 hk3 hbx HCL HL HBW HB3
          have x0 : w3.cell? ⟨bx, 0, none⟩ = some (.int .i64 x.who) := HXB.out.cell 0
          have x1 : w3.cell? ⟨bx, 1, none⟩ = some (.int .i64 x.d) := HXB.out.cell 1
          have x2 : w3.cell? ⟨bx, 2, none⟩ = some (.int .i64 x.n) := HXB.out.cell 2
          have hkw : md x.who 2 = 0 ∨ md x.who 2 = 1 := by have := @md_lt x.who 2 (by omega); omega
          have HMW : Hid (∀ W (k : Nat), md x.who 2 = k → Calls Try.prog 8 #[.int .i64 x.who, .int .i64 2] W fun e w' => e = .returned (.int .i64 (k : Int)) ∧ w' = W) := fun W k hk => mod_any x.who HXO.out.1.2.1 2 (by omega) (by omega) k hk W
          go_wp2_with fail
          rcases hkw with hkw | hkw
          case inl =>
            refine (HMW.out w3 0 hkw).mono ?_
            rintro e w' ⟨rfl, hw'⟩
            rw [hw']
            clear hw' w' HMW hkw
            by_cases hd2 : x.d = 2
            case pos =>
              have hd2b : (x.d == 2) = true := by simpa using hd2
              obtain ⟨kn, hkn⟩ : ∃ y, md x.n 100 = y := ⟨_, rfl⟩
              have HMN : Hid (∀ W, Calls Try.prog 8 #[.int .i64 x.n, .int .i64 100] W fun e w' => e = .returned (.int .i64 (kn : Int)) ∧ w' = W) := fun W => mod_any x.n HXO.out.1.2.2 100 (by omega) (by omega) kn hkn W
              have hbd := (HL3.out.bd (by omega)).1
              have HCM := comes0_any w8.heap.size bt tq cq kn w3 HL3.out.ti HN3.out hbd.k (hbd.y 0 (by omega)) (by have := hbd.y 1 (by omega); omega) (hbd.o 0 (by omega)) (hbd.u 0 (by omega)) (comesP tq 0 (min kn (tq.y 0).length)) rfl
              clear hkn hbd
              go_wp2_with fail
              refine (HMN.out w3).mono ?_
              rintro e w' ⟨rfl, hw'⟩
              rw [hw']
              clear hw' w' HMN
              go_wp2_with fail
              refine HCM.mono ?_
              rintro e w4 ⟨rfl, c4, ht4, hb4, hk4⟩
              have HL4 : Hid (LT w w8.heap.size w9 bt c9 d0 i0 h0 d1 i1 h1 (j + 1) w4 (comesP tq 0 (min kn (tq.y 0).length)) c4) := HL3.out.come0 HHS.out ht4 hk4 hb4.2
              obtain ⟨t4, ht4e⟩ : ∃ y, comesP tq 0 (min kn (tq.y 0).length) = y := ⟨_, rfl⟩
              rw [ht4e] at HL4
              clear HCM ht4 hb4 hk4 ht4e
              go_wp2_with fail
              exact ⟨⟨j + 1, t4, c4, by omega, by simp, HL4.out⟩, by simp [intOf]; omega⟩
            case neg =>
              have hd2b : (x.d == 2) = false := by simpa using hd2
              by_cases hd3 : x.d = 3
              case neg =>
                have hd3b : (x.d == 3) = false := by simpa using hd3
                go_wp2_with fail
                exact ⟨⟨j + 1, tq, cq, by omega, by simp, HL3.out.next⟩, by simp [intOf]; omega⟩
              case pos =>
                have hd3b : (x.d == 3) = true := by simpa using hd3
                obtain ⟨sm, hsm⟩ : ∃ t, decide (x.m.lost.length + x.m.hv.length + x.m.rt.path.length + x.m.rt.marks.length + x.m.rt.clus.length ≤ 20000) = t := ⟨_, rfl⟩
                have HSM : Hid (decide (x.m.lost.length + x.m.hv.length + x.m.rt.path.length + x.m.rt.marks.length + x.m.rt.clus.length ≤ 20000) = sm) := hsm
                clear hsm
                go_wp2_with (refine list_sat PmK rfl _ rfl (b := bx) (k := 3) (cs := msL x.m xs) rfl (ts_ms HXB.out) rfl ?_)
                refine (small_any x.m xs HXO.out.2 sm HSM.out w3).mono ?_
                rintro e w4 ⟨rfl, hb4⟩
                have HXB4 : Hid (SB TsK bx (tsL x xs) w4) := HXB.out.blk (hb4.block bx HXB.out.lt)
                have HL4 : Hid (LT w w8.heap.size w9 bt c9 d0 i0 h0 d1 i1 h1 j w4 tq cq) := HL3.out.bel hb4
                have HBW4 : Hid (Below w.heap.size w w4) := HBW3.out.trans (hb4.mono HBW3.out.size)
                clear hb4 HXB HL3 HBW3 HN3 x0 x1 x2
                cases sm with
                | false =>
                  go_wp2_with fail
                  exact ⟨⟨j + 1, tq, cq, by omega, by simp, HL4.out.next⟩, by simp [intOf]; omega⟩
                | true =>
                  have hsum := of_decide_eq_true HSM.out
                  obtain ⟨b, er, hP, hu8, hbl, hno, hyes⟩ := HL4.out.tell0 HHS.out (m := x.m) ⟨HXO.out.1.1.il, HXO.out.1.1.ih, ⟨HXO.out.1.1.r.n0, HXO.out.1.1.r.n1⟩⟩
                  have HPT : Hid (tmP (tq.s 0) x.m tq.clk = ((tq.s 0, ⟨b, []⟩), er)) := hP
                  have HEV : Hid ((∀ d ∈ b, d < 256) ∧ b.length ≤ 1024) := ⟨hu8, hbl⟩
                  have HNO : Hid (er ≠ 0 → _) := hno
                  have HYES : Hid (er = 0 → _) := hyes
                  have HCK : Hid (tq.clk = 0) := (HL4.out.bd (by omega)).2
                  clear hP hu8 hbl hno hyes
                  go_wp2_with fail
                  refine wp_region_held_drew (S := fun W => TC bt cq 0 W ∧ SB TsK bx (tsL x xs) W) (by kernel_rfl) ⟨by have h := (HL4.out.ti.bel (drew_bel w4)).tc; rw [HCK.out] at h; exact h, HXB4.out.blk ((drew_bel w4).block bx HXB4.out.lt)⟩ (fun hHeld => ?_)
                  have HTX : Hid (TI w8.heap.size w4.drew bt tq cq) := HL4.out.ti.bel (drew_bel w4)
                  have HKX : Hid (Kl w9 w4.drew bt c9 cq) := HL4.out.kl.trans (Kl.bel (drew_bel w4))
                  have HBWX : Hid (Below w.heap.size w w4.drew) := HBW4.out.trans ((drew_bel w4).mono HBW4.out.size)
                  obtain ⟨X0, hX0⟩ : ∃ x, w4.drew = x := ⟨_, rfl⟩
                  rw [hX0] at HTX HKX HBWX hHeld ⊢
                  clear hX0
                  have HBXX : Hid (bx < X0.heap.size) := hHeld.2.lt
                  have HN0 : Hid (w8.heap.size ≤ X0.heap.size) := Nat.le_trans HN.out.1 HKX.out.str.size
                  have HTELL : Hid (∀ W, Below X0.heap.size X0 W → Calls Try.prog 15 #[.pointer (some ⟨cq.b 0, 0, none⟩), msV x.m xs, .int .i64 0] W fun e w' => ∃ vb ve c1, e = .returned (.tuple #[.agg #[vb, ve], .int .i64 er]) ∧ Mid w8.heap.size w' bt (sesP tq 0 (tq.s 0)) c1 ⟨b, []⟩ vb ve ∧ Kl W w' bt cq c1 ∧ (c1.b = cq.b ∧ c1.h = cq.h) ∧ (∀ g, fpV vb ve [] g → W.heap.size ≤ g)) := fun W hW => by
                    have h := tell_mid (N := w8.heap.size) (w0 := w) (HTX.out.bel hW) (i := 0) (by omega) (Nat.le_trans HN0.out hW.size) (by rw [HCK.out]; decide) (m := x.m) (sl := xs) ⟨by omega, by omega⟩ HXO.out.1.1 (Nat.le_trans HBWX.out.size hW.size) (fun g hg => (hW.block g (Nat.lt_of_lt_of_le hg HBWX.out.size)).trans (HBWX.out.block g hg)) (HL4.out.lo HN.out.1 HN.out.2 HLO.out) HPT.out
                    rw [HCK.out] at h
                    exact h
                  refine wpAnyH_take (i := 0) (v := .pointer (some ⟨bt, 0, none⟩)) rfl (by kernel_rfl) (by kernel_rfl) (by kernel_rfl) (fun _ _ _ h => h) (Or.inl ⟨by rfl, ?_⟩) (by assumption) ?_
                  case refine_1 => intro W hSw; go_simp; try rfl
                  try simp only [Act.put, List.getElem_toArray, List.getElem_cons_zero, List.getElem_cons_succ, List.setIfInBounds_toArray, List.set_cons_zero, List.set_cons_succ]
                  refine wpAnyH_take (i := 1) (v := .int .i64 0) rfl (by kernel_rfl) (by kernel_rfl) (by kernel_rfl) (fun _ _ _ h => h) (Or.inl ⟨by rfl, ?_⟩) (by assumption) ?_
                  case refine_1 => intro W hSw; go_simp; try rfl
                  try simp only [Act.put, List.getElem_toArray, List.getElem_cons_zero, List.getElem_cons_succ, List.setIfInBounds_toArray, List.set_cons_zero, List.set_cons_succ]
                  refine wpAnyH_take (i := 2) (v := .pointer (some ⟨bt, 0, none⟩)) rfl (by kernel_rfl) (by kernel_rfl) (by kernel_rfl) (fun _ _ _ h => h) (Or.inl ⟨by rfl, ?_⟩) (by assumption) ?_
                  case refine_1 => intro W hSw; go_simp; try rfl
                  try simp only [Act.put, List.getElem_toArray, List.getElem_cons_zero, List.getElem_cons_succ, List.setIfInBounds_toArray, List.set_cons_zero, List.set_cons_succ]
                  refine wpAnyH_take (i := 3) (v := .pointer (some ⟨bt, 0, none⟩)) rfl (by kernel_rfl) (by kernel_rfl) (by kernel_rfl) (fun _ _ _ h => h) (Or.inl ⟨by rfl, ?_⟩) (by assumption) ?_
                  case refine_1 => intro W hSw; go_simp; try rfl
                  try simp only [Act.put, List.getElem_toArray, List.getElem_cons_zero, List.getElem_cons_succ, List.setIfInBounds_toArray, List.set_cons_zero, List.set_cons_succ]
                  refine wpAnyH_take (i := 4) (v := .pointer (some ⟨bt, 0, none⟩)) rfl (by kernel_rfl) (by kernel_rfl) (by kernel_rfl) (fun _ _ _ h => h) (Or.inl ⟨by rfl, ?_⟩) (by assumption) ?_
                  case refine_1 => intro W hSw; go_simp; try rfl
                  try simp only [Act.put, List.getElem_toArray, List.getElem_cons_zero, List.getElem_cons_succ, List.setIfInBounds_toArray, List.set_cons_zero, List.set_cons_succ]
                  refine wpAnyH_take (i := 5) (v := .pointer (some ⟨cq.b 0, 0, none⟩)) rfl (by kernel_rfl) (by kernel_rfl) (by kernel_rfl) (fun _ _ _ h => h) (Or.inl ⟨by rfl, ?_⟩) (by assumption) ?_
                  case refine_1 => intro W hSw; have cc : W.cell? ⟨bt, 0, none⟩ = some (.pointer (some ⟨cq.b 0, 0, none⟩)) := hSw.1.1; go_simp; try rfl
                  try simp only [Act.put, List.getElem_toArray, List.getElem_cons_zero, List.getElem_cons_succ, List.setIfInBounds_toArray, List.set_cons_zero, List.set_cons_succ]
                  refine wpAnyH_take (i := 6) (v := .pointer (some ⟨bx, 3, none⟩)) rfl (by kernel_rfl) (by kernel_rfl) (by kernel_rfl) (fun _ _ _ h => h) (Or.inl ⟨by rfl, ?_⟩) (by assumption) ?_
                  case refine_1 => intro W hSw; go_simp; try rfl
                  try simp only [Act.put, List.getElem_toArray, List.getElem_cons_zero, List.getElem_cons_succ, List.setIfInBounds_toArray, List.set_cons_zero, List.set_cons_succ]
                  refine wpAnyH_take (i := 7) (v := .agg (msL x.m xs).toArray) rfl (by kernel_rfl) (by kernel_rfl) (by kernel_rfl) (fun _ _ _ h => h) (Or.inl ⟨by rfl, fun W hSw => sat_run PmK (.tmp 120) rfl (b := bx) (k := 3) rfl (ts_ms hSw.2) rfl⟩) (by assumption) ?_
                  try simp only [Act.put, List.getElem_toArray, List.getElem_cons_zero, List.getElem_cons_succ, List.setIfInBounds_toArray, List.set_cons_zero, List.set_cons_succ]
                  refine wpAnyH_take (i := 8) (v := .pointer (some ⟨bt, 0, none⟩)) rfl (by kernel_rfl) (by kernel_rfl) (by kernel_rfl) (fun _ _ _ h => h) (Or.inl ⟨by rfl, ?_⟩) (by assumption) ?_
                  case refine_1 => intro W hSw; go_simp; try rfl
                  try simp only [Act.put, List.getElem_toArray, List.getElem_cons_zero, List.getElem_cons_succ, List.setIfInBounds_toArray, List.set_cons_zero, List.set_cons_succ]
                  refine wpAnyH_take (i := 9) (v := .pointer (some ⟨bt, 0, none⟩)) rfl (by kernel_rfl) (by kernel_rfl) (by kernel_rfl) (fun _ _ _ h => h) (Or.inl ⟨by rfl, ?_⟩) (by assumption) ?_
                  case refine_1 => intro W hSw; go_simp; try rfl
                  try simp only [Act.put, List.getElem_toArray, List.getElem_cons_zero, List.getElem_cons_succ, List.setIfInBounds_toArray, List.set_cons_zero, List.set_cons_succ]
                  refine wpAnyH_take (i := 10) (v := .pointer (some ⟨bt, 10, none⟩)) rfl (by kernel_rfl) (by kernel_rfl) (by kernel_rfl) (fun _ _ _ h => h) (Or.inl ⟨by rfl, ?_⟩) (by assumption) ?_
                  case refine_1 => intro W hSw; go_simp; try rfl
                  try simp only [Act.put, List.getElem_toArray, List.getElem_cons_zero, List.getElem_cons_succ, List.setIfInBounds_toArray, List.set_cons_zero, List.set_cons_succ]
                  refine wpAnyH_take (i := 11) (v := .int .i64 0) rfl (by kernel_rfl) (by kernel_rfl) (by kernel_rfl) (fun _ _ _ h => h) (Or.inl ⟨by rfl, ?_⟩) (by assumption) ?_
                  case refine_1 => intro W hSw; have cc : W.cell? ⟨bt, 10, none⟩ = some (.int .i64 0) := hSw.1.2.2; go_simp; try rfl
                  try simp only [Act.put, List.getElem_toArray, List.getElem_cons_zero, List.getElem_cons_succ, List.setIfInBounds_toArray, List.set_cons_zero, List.set_cons_succ]
                  refine wpAnyH_ready (rs := [12, 16]) (by kernel_rfl) (by simp) ?_
                  refine AllReadyH.cons rfl (fun K hK => ?_) (AllReadyH.cons rfl (fun K hK => ?_) AllReadyH.nil)
                  case' refine_1 =>
                    go_simp
                    refine (HTELL.out X0 (Below.refl _ _)).mono ?_
                    rintro e X1 ⟨vb, ve, c1, rfl, hmd, hkl, hbh, hfp⟩
                    have HXB5 : Hid (SB TsK bx (tsL x xs) X1) := SB.blk hHeld.2 (hkl.blk bx hHeld.2.lt (fun e => by have := HBX.out bx e; omega))
                    refine hK.out _ _ ⟨by have h : TC bt cq tq.clk X1 := hmd.ti.tc.b hbh.1; rw [HCK.out] at h; exact h, HXB5.out⟩ (fun hHeld => ?_)
                    clear hK K HXB5
                    try simp only [Act.put, List.getElem_toArray, List.getElem_cons_zero, List.getElem_cons_succ, List.setIfInBounds_toArray, List.set_cons_zero, List.set_cons_succ]
                    refine wpAnyH_take (i := 13) (v := ?_) rfl (by kernel_rfl) (by kernel_rfl) (by kernel_rfl) (fun _ _ _ h => h) (Or.inl ⟨by rfl, ?_⟩) (by assumption) ?_
                    case refine_2 => intro W hSw; go_simp; try rfl
                    try simp only [Act.put, List.getElem_toArray, List.getElem_cons_zero, List.getElem_cons_succ, List.setIfInBounds_toArray, List.set_cons_zero, List.set_cons_succ]
                    refine wpAnyH_take (i := 14) (v := .agg #[vb, ve]) rfl (by kernel_rfl) (by kernel_rfl) (by kernel_rfl) (fun _ _ _ h => h) (Or.inl ⟨by rfl, ?_⟩) (by assumption) ?_
                    case refine_1 => intro W hSw; go_simp; try rfl
                    try simp only [Act.put, List.getElem_toArray, List.getElem_cons_zero, List.getElem_cons_succ, List.setIfInBounds_toArray, List.set_cons_zero, List.set_cons_succ]
                    refine wpAnyH_take (i := 15) (v := .int .i64 er) rfl (by kernel_rfl) (by kernel_rfl) (by kernel_rfl) (fun _ _ _ h => h) (Or.inl ⟨by rfl, ?_⟩) (by assumption) ?_
                    case refine_1 => intro W hSw; go_simp; try rfl
                    try simp only [Act.put, List.getElem_toArray, List.getElem_cons_zero, List.getElem_cons_succ, List.setIfInBounds_toArray, List.set_cons_zero, List.set_cons_succ]
                    have HBTL : Hid (bt < X1.heap.size) := hmd.ti.box.lt
                    refine wpAnyH_ready (rs := [16]) (by kernel_rfl) (by simp) ?_
                    refine AllReadyH.cons rfl (fun K hK => ?_) AllReadyH.nil
                    refine oalloc_step rfl rfl (fun X2 bo hbo hbl hbe => ?_)
                    refine hK.out _ _ ⟨TC.keep hHeld.1 (hbl.out.block bt HBTL.out), SB.blk hHeld.2 (hbl.out.block bx hHeld.2.lt)⟩ (fun hHeld => ?_)
                    clear hK K
                    try simp only [Act.put, List.getElem_toArray, List.getElem_cons_zero, List.getElem_cons_succ, List.setIfInBounds_toArray, List.set_cons_zero, List.set_cons_succ]
                    have HM : Hid (Mid w8.heap.size X2 bt (sesP tq 0 (tq.s 0)) c1 ⟨b, []⟩ vb ve) := hmd.bel hbl.out
                    have HKY : Hid (Kl X0 X2 bt cq c1) := hkl.trans (Kl.bel hbl.out)
                    have HBO : Hid (SB OutK bo [.slice none 0 0, .slice none 0 0] X2) := hbo.out
                    have HBOF : Hid (X0.heap.size ≤ bo ∧ ¬ c1.A bt bo ∧ ¬ fpV vb ve [] bo) := by
                      have e := hbe.out
                      refine ⟨by have := hkl.str.size; omega, fun h => ?_, fun h => ?_⟩
                      · have := hmd.ti.lt bo h; omega
                      · have := hmd.ov.lt bo h; omega
                    clear hmd hkl hfp hbo hbl hbe HBTL
                  case' refine_2 =>
                    have HBTL : Hid (bt < X0.heap.size) := HTX.out.box.lt
                    refine oalloc_step rfl rfl (fun X1 bo hbo hbl hbe => ?_)
                    refine hK.out _ _ ⟨TC.keep hHeld.1 (hbl.out.block bt HBTL.out), SB.blk hHeld.2 (hbl.out.block bx hHeld.2.lt)⟩ (fun hHeld => ?_)
                    clear hK K
                    try simp only [Act.put, List.getElem_toArray, List.getElem_cons_zero, List.getElem_cons_succ, List.setIfInBounds_toArray, List.set_cons_zero, List.set_cons_succ]
                    refine wpAnyH_ready (rs := [12]) (by kernel_rfl) (by simp) ?_
                    refine AllReadyH.cons rfl (fun K hK => ?_) AllReadyH.nil
                    go_simp
                    refine (HTELL.out X1 hbl.out).mono ?_
                    rintro e X2 ⟨vb, ve, c1, rfl, hmd, hkl, hbh, hfp⟩
                    have HXB5 : Hid (SB TsK bx (tsL x xs) X2) := SB.blk hHeld.2 (hkl.blk bx hHeld.2.lt (fun e => by have := HBX.out bx e; omega))
                    refine hK.out _ _ ⟨by have h : TC bt cq tq.clk X2 := hmd.ti.tc.b hbh.1; rw [HCK.out] at h; exact h, HXB5.out⟩ (fun hHeld => ?_)
                    clear hK K HXB5
                    try simp only [Act.put, List.getElem_toArray, List.getElem_cons_zero, List.getElem_cons_succ, List.setIfInBounds_toArray, List.set_cons_zero, List.set_cons_succ]
                    refine wpAnyH_take (i := 13) (v := ?_) rfl (by kernel_rfl) (by kernel_rfl) (by kernel_rfl) (fun _ _ _ h => h) (Or.inl ⟨by rfl, ?_⟩) (by assumption) ?_
                    case refine_2 => intro W hSw; go_simp; try rfl
                    try simp only [Act.put, List.getElem_toArray, List.getElem_cons_zero, List.getElem_cons_succ, List.setIfInBounds_toArray, List.set_cons_zero, List.set_cons_succ]
                    refine wpAnyH_take (i := 14) (v := .agg #[vb, ve]) rfl (by kernel_rfl) (by kernel_rfl) (by kernel_rfl) (fun _ _ _ h => h) (Or.inl ⟨by rfl, ?_⟩) (by assumption) ?_
                    case refine_1 => intro W hSw; go_simp; try rfl
                    try simp only [Act.put, List.getElem_toArray, List.getElem_cons_zero, List.getElem_cons_succ, List.setIfInBounds_toArray, List.set_cons_zero, List.set_cons_succ]
                    refine wpAnyH_take (i := 15) (v := .int .i64 er) rfl (by kernel_rfl) (by kernel_rfl) (by kernel_rfl) (fun _ _ _ h => h) (Or.inl ⟨by rfl, ?_⟩) (by assumption) ?_
                    case refine_1 => intro W hSw; go_simp; try rfl
                    try simp only [Act.put, List.getElem_toArray, List.getElem_cons_zero, List.getElem_cons_succ, List.setIfInBounds_toArray, List.set_cons_zero, List.set_cons_succ]
                    have HM : Hid (Mid w8.heap.size X2 bt (sesP tq 0 (tq.s 0)) c1 ⟨b, []⟩ vb ve) := hmd
                    have HKY : Hid (Kl X0 X2 bt cq c1) := (Kl.bel hbl.out).trans hkl
                    have HBOX : Hid (bo < X1.heap.size ∧ bo = X0.heap.size) := ⟨hbo.out.lt, hbe.out⟩
                    have HBO : Hid (SB OutK bo [.slice none 0 0, .slice none 0 0] X2) := hbo.out.blk (hkl.blk bo HBOX.out.1 (fun h => by have := HTX.out.lt bo h; have := HBOX.out; omega))
                    have HBOF : Hid (X0.heap.size ≤ bo ∧ ¬ c1.A bt bo ∧ ¬ fpV vb ve [] bo) := by
                      have e := HBOX.out
                      refine ⟨by omega, fun h => ?_, fun h => ?_⟩
                      · rcases hkl.now bo h with h2 | h2
                        · have := HTX.out.lt bo h2; omega
                        · omega
                      · have := hfp bo h; omega
                    clear hmd hkl hfp hbo hbl hbe HBTL HBOX
                  all_goals
                    have HONE : Hid ([vb, ve].all (·.oneCell') = true) := by
                      obtain ⟨z1, z2, e1, -⟩ := HM.out.ov.bys.form
                      obtain ⟨z3, z4, e2, -⟩ := HM.out.ov.ev.own.form
                      rw [e1, e2]
                      rfl
                    have HBXO : Hid (bx ≠ bo) := fun e => by have := HBOF.out.1; have := HBXX.out; omega
                    have HBTO : Hid (bt ≠ bo) := fun e => HBOF.out.2.1 ⟨0, by omega, e.symm⟩
                    refine wpAnyH_ready (rs := [17]) (by kernel_rfl) (by simp) ?_
                    refine AllReadyH.cons rfl (fun K hK => ?_) AllReadyH.nil
                    refine sstore_step OutK (.tmp 17) (.tmp 127) rfl (b := bo) (cs := [.slice none 0 0, .slice none 0 0]) (cs' := [vb, ve]) rfl rfl HBO.out rfl rfl HONE.out rfl (fun X3 hx3 hk3 => ?_)
                    refine hK.out _ _ ⟨TC.keep hHeld.1 (hk3.out.block bt HBTO.out), SB.blk hHeld.2 (hk3.out.block bx HBXO.out)⟩ (fun hHeld => ?_)
                    clear hK K
                    try simp only [Act.put, List.getElem_toArray, List.getElem_cons_zero, List.getElem_cons_succ, List.setIfInBounds_toArray, List.set_cons_zero, List.set_cons_succ]
                    refine wpAnyH_take (i := 18) (v := .int .i64 er) rfl (by kernel_rfl) (by kernel_rfl) (by kernel_rfl) (fun _ _ _ h => h) (Or.inl ⟨by rfl, ?_⟩) (by assumption) ?_
                    case refine_1 => intro W hSw; go_simp; try rfl
                    try simp only [Act.put, List.getElem_toArray, List.getElem_cons_zero, List.getElem_cons_succ, List.setIfInBounds_toArray, List.set_cons_zero, List.set_cons_succ]
                    refine wpAnyH_done (by kernel_rfl) ?_ _
                    have HM3 : Hid (Mid w8.heap.size X3 bt (sesP tq 0 (tq.s 0)) c1 ⟨b, []⟩ vb ve) := HM.out.ko hk3.out HBOF.out.2.1 HBOF.out.2.2
                    have HK3 : Hid (Kl w9 X3 bt c9 c1) := (HKX.out.trans HKY.out).ko hk3.out (Nat.le_trans HKX.out.str.size HBOF.out.1)
                    have HXB3 : Hid (SB TsK bx (tsL x xs) X3) := hHeld.2
                    have HBO3 : Hid (SB OutK bo [vb, ve] X3) := hx3.out
                    have HB1 : Hid (c1.h = cq.h) := hbh.2
                    have HC1 : Hid (¬ c1.A bt bx) := fun h => by
                      rcases HKY.out.now bx h with h2 | h2
                      · have := HBX.out bx h2; omega
                      · have := HBXX.out; omega
                    have HBO1 : Hid (w9.heap.size ≤ bo ∧ ¬ c1.A bt bo) := ⟨Nat.le_trans HKX.out.str.size HBOF.out.1, HBOF.out.2.1⟩
                    have HN3 : Hid (w8.heap.size ≤ X3.heap.size) := Nat.le_trans HN.out.1 HK3.out.str.size
                    clear hHeld hbh hx3 hk3 HM HKY HBO HBOF HTELL HTX HKX HBWX HBXX HN0 HONE HBXO HBTO
                    have hbd := (HL4.out.bd (by omega)).1
                    have HOUT := mid0_out HM3.out HN3.out HEV.out.1 (by show (tq.y 1).length + b.length ≤ _; have := hbd.y 1 (by omega); have := HEV.out.2; omega) (by show (tq.o 0).length ≤ _; exact hbd.o 0 (by omega)) (by show 0 ≤ tq.u 0 ∧ tq.u 0 ≤ _; exact hbd.u 0 (by omega))
                    clear hbd
                    go_wp2_with (refine list_sload OutK rfl _ rfl (b := bo) (cs := [vb, ve]) rfl HBO3.out rfl ?_)
                    refine HOUT.mono ?_
                    rintro e w6 ⟨rfl, c2, ht6, hk6, hb6⟩
                    have HT6 : Hid (TI w8.heap.size w6 bt (outP (sesP tq 0 (tq.s 0)) 0 ⟨b, []⟩) c2) := ht6
                    have HK6 : Hid (Kl w9 w6 bt c9 c2) := HK3.out.trans hk6
                    have HXB6 : Hid (SB TsK bx (tsL x xs) w6) := HXB3.out.blk (hk6.blk bx HXB3.out.lt HC1.out)
                    have HB6h : Hid (c2.h = cq.h) := hb6.2.trans HB1.out
                    have HC2 : Hid (¬ c2.A bt bx) := fun h => by
                      rcases hk6.now bx h with h2 | h2
                      · exact HC1.out h2
                      · have := HXB3.out.lt; omega
                    clear HOUT ht6 hk6 hb6 HM3 HK3 HXB3 HBO3 HB1 HC1 HBO1 HN3 HEV HPT
                    by_cases her : er = 0
                    case neg =>
                      have herb : (er == 0) = false := by simpa using her
                      have HL5 := HNO.out her w6 c2 HT6.out HK6.out HB6h.out
                      go_wp2_with fail
                      exact ⟨⟨j + 1, _, c2, by omega, by simp, HL5⟩, by simp [intOf]; omega⟩
                    case pos =>
                      have herb : (er == 0) = true := by simpa using her
                      have HGL : Hid (((outP (sesP tq 0 (tq.s 0)) 0 ⟨b, []⟩).g 0).length ≤ j) := (HYES.out her).1
                      obtain ⟨T, hT⟩ : ∃ y, outP (sesP tq 0 (tq.s 0)) 0 ⟨b, []⟩ = y := ⟨_, rfl⟩
                      have HY2 : Hid (∀ wr' c', TI w8.heap.size wr' bt (givT T 0 x.m) c' → Kl w9 wr' bt c9 c' → (∀ i, i < 2 → ∀ p ∈ c'.h i, MOk w p.1 p.2) → LT w w8.heap.size w9 bt c9 d0 i0 h0 d1 i1 h1 (j + 1) wr' (givT T 0 x.m) c') := by rw [← hT]; exact (HYES.out her).2
                      rw [hT] at HT6 HGL
                      clear hT HNO HYES
                      go_wp2_with fail
                      refine wp_region_held_drew (S := fun W => SB TsK bx (tsL x xs) W) (by kernel_rfl) (SB.blk HXB6.out ((drew_bel w6).block bx HXB6.out.lt)) (fun hHeld => ?_)
                      have HTX : Hid (TI w8.heap.size w6.drew bt T c2) := HT6.out.bel (drew_bel w6)
                      have HKX : Hid (Kl w9 w6.drew bt c9 c2) := HK6.out.trans (Kl.bel (drew_bel w6))
                      have HKQ : Hid (Kl w6 w6.drew bt c2 c2) := Kl.bel (drew_bel w6)
                      obtain ⟨X0, hX0⟩ : ∃ x, w6.drew = x := ⟨_, rfl⟩
                      rw [hX0] at HTX HKX HKQ hHeld ⊢
                      clear hX0
                      have HN0 : Hid (w8.heap.size ≤ X0.heap.size) := Nat.le_trans HN.out.1 HKX.out.str.size
                      refine wpAnyH_take (i := 0) (v := .pointer (some ⟨bt, 0, none⟩)) rfl (by kernel_rfl) (by kernel_rfl) (by kernel_rfl) (fun _ _ _ h => h) (Or.inl ⟨by rfl, ?_⟩) (by assumption) ?_
                      case refine_1 => intro W hSw; go_simp; try rfl
                      try simp only [Act.put, List.getElem_toArray, List.getElem_cons_zero, List.getElem_cons_succ, List.setIfInBounds_toArray, List.set_cons_zero, List.set_cons_succ]
                      refine wpAnyH_take (i := 1) (v := .int .i64 0) rfl (by kernel_rfl) (by kernel_rfl) (by kernel_rfl) (fun _ _ _ h => h) (Or.inl ⟨by rfl, ?_⟩) (by assumption) ?_
                      case refine_1 => intro W hSw; go_simp; try rfl
                      try simp only [Act.put, List.getElem_toArray, List.getElem_cons_zero, List.getElem_cons_succ, List.setIfInBounds_toArray, List.set_cons_zero, List.set_cons_succ]
                      refine wpAnyH_take (i := 2) (v := .pointer (some ⟨bt, 0, none⟩)) rfl (by kernel_rfl) (by kernel_rfl) (by kernel_rfl) (fun _ _ _ h => h) (Or.inl ⟨by rfl, ?_⟩) (by assumption) ?_
                      case refine_1 => intro W hSw; go_simp; try rfl
                      try simp only [Act.put, List.getElem_toArray, List.getElem_cons_zero, List.getElem_cons_succ, List.setIfInBounds_toArray, List.set_cons_zero, List.set_cons_succ]
                      refine wpAnyH_take (i := 3) (v := .int .i64 0) rfl (by kernel_rfl) (by kernel_rfl) (by kernel_rfl) (fun _ _ _ h => h) (Or.inl ⟨by rfl, ?_⟩) (by assumption) ?_
                      case refine_1 => intro W hSw; go_simp; try rfl
                      try simp only [Act.put, List.getElem_toArray, List.getElem_cons_zero, List.getElem_cons_succ, List.setIfInBounds_toArray, List.set_cons_zero, List.set_cons_succ]
                      refine wpAnyH_take (i := 4) (v := .pointer (some ⟨bt, 0, none⟩)) rfl (by kernel_rfl) (by kernel_rfl) (by kernel_rfl) (fun _ _ _ h => h) (Or.inl ⟨by rfl, ?_⟩) (by assumption) ?_
                      case refine_1 => intro W hSw; go_simp; try rfl
                      try simp only [Act.put, List.getElem_toArray, List.getElem_cons_zero, List.getElem_cons_succ, List.setIfInBounds_toArray, List.set_cons_zero, List.set_cons_succ]
                      refine wpAnyH_take (i := 5) (v := .pointer (some ⟨bt, 4, none⟩)) rfl (by kernel_rfl) (by kernel_rfl) (by kernel_rfl) (fun _ _ _ h => h) (Or.inl ⟨by rfl, ?_⟩) (by assumption) ?_
                      case refine_1 => intro W hSw; go_simp; try rfl
                      try simp only [Act.put, List.getElem_toArray, List.getElem_cons_zero, List.getElem_cons_succ, List.setIfInBounds_toArray, List.set_cons_zero, List.set_cons_succ]
                      refine wpAnyH_take (i := 6) (v := .pointer (some ⟨bt, 4, none⟩)) rfl (by kernel_rfl) (by kernel_rfl) (by kernel_rfl) (fun _ _ _ h => h) (Or.inl ⟨by rfl, ?_⟩) (by assumption) ?_
                      case refine_1 => intro W hSw; go_simp; try rfl
                      try simp only [Act.put, List.getElem_toArray, List.getElem_cons_zero, List.getElem_cons_succ, List.setIfInBounds_toArray, List.set_cons_zero, List.set_cons_succ]
                      refine wpAnyH_take (i := 8) (v := .pointer (some ⟨bx, 3, none⟩)) rfl (by kernel_rfl) (by kernel_rfl) (by kernel_rfl) (fun _ _ _ h => h) (Or.inl ⟨by rfl, ?_⟩) (by assumption) ?_
                      case refine_1 => intro W hSw; go_simp; try rfl
                      try simp only [Act.put, List.getElem_toArray, List.getElem_cons_zero, List.getElem_cons_succ, List.setIfInBounds_toArray, List.set_cons_zero, List.set_cons_succ]
                      refine wpAnyH_take (i := 9) (v := .agg (msL x.m xs).toArray) rfl (by kernel_rfl) (by kernel_rfl) (by kernel_rfl) (fun _ _ _ h => h) (Or.inl ⟨by rfl, fun W hSw => sat_run PmK (.tmp 144) rfl (b := bx) (k := 3) rfl (ts_ms hSw) rfl⟩) (by assumption) ?_
                      try simp only [Act.put, List.getElem_toArray, List.getElem_cons_zero, List.getElem_cons_succ, List.setIfInBounds_toArray, List.set_cons_zero, List.set_cons_succ]
                      refine wpAnyH_take (i := 12) (v := .pointer (some ⟨bt, 0, none⟩)) rfl (by kernel_rfl) (by kernel_rfl) (by kernel_rfl) (fun _ _ _ h => h) (Or.inl ⟨by rfl, ?_⟩) (by assumption) ?_
                      case refine_1 => intro W hSw; go_simp; try rfl
                      try simp only [Act.put, List.getElem_toArray, List.getElem_cons_zero, List.getElem_cons_succ, List.setIfInBounds_toArray, List.set_cons_zero, List.set_cons_succ]
                      refine wpAnyH_take (i := 13) (v := .pointer (some ⟨bt, 4, none⟩)) rfl (by kernel_rfl) (by kernel_rfl) (by kernel_rfl) (fun _ _ _ h => h) (Or.inl ⟨by rfl, ?_⟩) (by assumption) ?_
                      case refine_1 => intro W hSw; go_simp; try rfl
                      try simp only [Act.put, List.getElem_toArray, List.getElem_cons_zero, List.getElem_cons_succ, List.setIfInBounds_toArray, List.set_cons_zero, List.set_cons_succ]
                      obtain ⟨va9, vc9, hv9, -⟩ := (HTX.out.g 0 (by omega)).1.form
                      obtain ⟨n9, hn9⟩ : ∃ y, (c2.h 0).length = y := ⟨_, rfl⟩
                      have HN9 : Hid ((c2.h 0).length = n9) := hn9
                      rw [hn9] at hv9
                      have HV9 : Hid (c2.g 0 = .slice va9 n9 vc9) := hv9
                      have c1v : X0.cell? ⟨bt, 4, none⟩ = some (.slice va9 n9 vc9) := by rw [← hv9]; exact HTX.out.box.cell 4
                      clear hn9 hv9
                      have HB6 : Hid (Below X0.heap.size X0 (X0.alloc (Obj.cells (msL x.m xs).toArray 54))) := (Below.refl _ X0).alloc (Nat.le_refl _) _
                      have HN6 : Hid ((X0.alloc (Obj.cells (msL x.m xs).toArray 54)).heap[X0.heap.size]? = some (Obj.cells (msL x.m xs).toArray 54)) := World.alloc_heap_new X0 _
                      have c2v : (X0.alloc (Obj.cells (msL x.m xs).toArray 54)).cell? ⟨bt, 4, none⟩ = some (.slice va9 n9 vc9) := (World.cell?_of_block (w := X0) (HB6.out.block bt HTX.out.box.lt)).trans c1v
                      refine wpAnyH_ready (rs := [7, 10]) (by kernel_rfl) (by simp) ?_
                      refine AllReadyH.cons rfl (fun K hK => ?_) (AllReadyH.cons rfl (fun K hK => ?_) AllReadyH.nil)
                      case' refine_1 =>
                        go_simp
                        refine hK.out _ _ hHeld (fun hHeld => ?_)
                        clear hK K c1v c2v
                        try simp only [Act.put, List.getElem_toArray, List.getElem_cons_zero, List.getElem_cons_succ, List.setIfInBounds_toArray, List.set_cons_zero, List.set_cons_succ]
                        refine wpAnyH_ready (rs := [10]) (by kernel_rfl) (by simp) ?_
                        refine AllReadyH.cons rfl (fun K hK => ?_) AllReadyH.nil
                        refine step_run rfl (mbuild_run (.tmp 145) rfl (m := x.m) (s := xs) rfl) ?_
                        refine hK.out _ _ (SB.blk hHeld (HB6.out.block _ hHeld.lt)) (fun hHeld => ?_)
                        obtain ⟨X1, hX1⟩ : ∃ y, X0.alloc (Obj.cells (msL x.m xs).toArray 54) = y := ⟨_, rfl⟩
                        
                        rw [hX1] at HB6 HN6 hHeld ⊢
                        clear hX1 hK K
                        try simp only [Act.put, List.getElem_toArray, List.getElem_cons_zero, List.getElem_cons_succ, List.setIfInBounds_toArray, List.set_cons_zero, List.set_cons_succ]
                      case' refine_2 =>
                        refine step_run rfl (mbuild_run (.tmp 145) rfl (m := x.m) (s := xs) rfl) ?_
                        refine hK.out _ _ (SB.blk hHeld (HB6.out.block _ hHeld.lt)) (fun hHeld => ?_)
                        obtain ⟨X1, hX1⟩ : ∃ y, X0.alloc (Obj.cells (msL x.m xs).toArray 54) = y := ⟨_, rfl⟩
                        
                        rw [hX1] at HB6 HN6 hHeld c2v ⊢
                        clear hX1 hK K c1v
                        try simp only [Act.put, List.getElem_toArray, List.getElem_cons_zero, List.getElem_cons_succ, List.setIfInBounds_toArray, List.set_cons_zero, List.set_cons_succ]
                        refine wpAnyH_ready (rs := [7]) (by kernel_rfl) (by simp) ?_
                        refine AllReadyH.cons rfl (fun K hK => ?_) AllReadyH.nil
                        go_simp
                        refine hK.out _ _ hHeld (fun hHeld => ?_)
                        clear hK K c2v
                        try simp only [Act.put, List.getElem_toArray, List.getElem_cons_zero, List.getElem_cons_succ, List.setIfInBounds_toArray, List.set_cons_zero, List.set_cons_succ]
                      all_goals
                        refine wpAnyH_ready (rs := [11]) (by kernel_rfl) (by simp) ?_
                        refine AllReadyH.cons rfl (fun K hK => ?_) AllReadyH.nil
                        have HO6 : Hid (Gm.OwnL E17 w8.heap.size X1 (.slice va9 n9 vc9) (c2.h 0)) := by rw [← HV9.out]; exact (HTX.out.g 0 (by omega)).1.bel HB6.out
                        have HM6 : Hid (w8.heap.size ≤ X1.heap.size) := Nat.le_trans HN0.out HB6.out.size
                        have HLN2 : Hid ((c2.h 0).length ≤ 137438953471) := by
                          show _ ≤ _
                          have h5 := HGL.out
                          have h6 := (HTX.out.g 0 (by omega)).2
                          rw [← h6, List.length_map] at h5
                          omega
                        have HVB : Hid (∀ g, (Value.slice va9 n9 vc9).ownBlock = some g → c2.A bt g ∧ g ≠ bt) := fun g e => by
                          rw [← HV9.out] at e
                          have h5 : c2.F bt 5 g := e
                          exact ⟨⟨5, by omega, h5⟩, fun e2 => HTX.out.d 5 0 (by omega) (by omega) (by omega) g h5 e2⟩
                        refine gstep_app1 E17 _ _ 39 rfl rfl w8.heap.size (.slice va9 n9 vc9) (c2.h 0) (x.m, xs) HLN2.out X1 rfl HO6.out X0.heap.size rfl HM6.out HN6.out rfl (fun v7 X2 ho7 hg7 ha7 => ?_)
                        refine hK.out _ _ (SB.blk hHeld (hg7.out.block _ hHeld.lt (fun e2 => HC2.out (HVB.out _ e2.symm).1))) (fun hHeld => ?_)
                        clear hK K
                        try simp only [Act.put, List.getElem_toArray, List.getElem_cons_zero, List.getElem_cons_succ, List.setIfInBounds_toArray, List.set_cons_zero, List.set_cons_succ]
                        refine wpAnyH_take (i := 14) (v := .pointer (some ⟨bt, 4, none⟩)) rfl (by kernel_rfl) (by kernel_rfl) (by kernel_rfl) (fun _ _ _ h => h) (Or.inl ⟨by rfl, ?_⟩) (by assumption) ?_
                        case refine_1 => intro W hSw; go_simp; try rfl
                        try simp only [Act.put, List.getElem_toArray, List.getElem_cons_zero, List.getElem_cons_succ, List.setIfInBounds_toArray, List.set_cons_zero, List.set_cons_succ]
                        refine wpAnyH_ready (rs := [15]) (by kernel_rfl) (by simp) ?_
                        refine AllReadyH.cons rfl (fun K hK => ?_) AllReadyH.nil
                        have HBXT : Hid (SB TaK bt (taL (T) c2) X2) := (HTX.out.box.blk (HB6.out.block bt HTX.out.box.lt)).blk (hg7.out.block _ (Nat.lt_of_lt_of_le HTX.out.box.lt HB6.out.size) (fun e2 => (HVB.out _ e2.symm).2 rfl))
                        have f1 : X2.frozen? ⟨bt, 4, none⟩ = false := HBXT.out.fro 4
                        have c1w : X2.cell? ⟨bt, 4, none⟩ = some (c2.g 0) := HBXT.out.cell 4
                        obtain ⟨va7, vc7, hv7, -⟩ := ho7.out.form
                        obtain ⟨n7, hn7⟩ : ∃ y, (c2.h 0 ++ [(x.m, xs)]).length = y := ⟨_, rfl⟩
                        rw [hn7] at hv7
                        subst hv7
                        have HB8 : Hid (SB TaK bt (taL (givT (T) 0 x.m) (givC c2 0 (.slice va7 n7 vc7) x.m xs)) (X2.setCell ⟨bt, 4, none⟩ (.slice va7 n7 vc7))) := HBXT.out.set 4 _ rfl
                        have HK8 : Hid (Ko X2 bt (X2.setCell ⟨bt, 4, none⟩ (.slice va7 n7 vc7))) := Ko.set _ _ _ _
                        have HTU := TI.giv HTX.out (by omega) HB6.out ho7.out (by rw [HV9.out]; exact hg7.out) (by rw [HV9.out]; exact ha7.out.imp id (fun e2 => ⟨_, HB6.out.size, e2⟩)) HK8.out HB8.out
                        go_simp
                        refine hK.out _ _ (SB.blk hHeld (HK8.out.block bx (fun e => HC2.out ⟨0, by omega, e⟩))) (fun hHeld => ?_)
                        clear hK K f1 c1w
                        obtain ⟨X3, hX3⟩ : ∃ y, X2.setCell ⟨bt, 4, none⟩ (.slice va7 n7 vc7) = y := ⟨_, rfl⟩
                        rw [hX3] at HTU hHeld ⊢
                        have HTV : Hid (TI w8.heap.size X3 bt (givT (T) 0 x.m) (givC c2 0 (.slice va7 n7 vc7) x.m xs)) := HTU.1
                        have HKV : Hid (Kl w9 X3 bt c9 (givC c2 0 (.slice va7 n7 vc7) x.m xs)) := HKX.out.trans HTU.2
                        have HKW : Hid (Kl w6 X3 bt c2 (givC c2 0 (.slice va7 n7 vc7) x.m xs)) := HKQ.out.trans HTU.2
                        clear hX3 HTU HB8 HK8 HBXT hn7 ho7 hg7 ha7 HKX HTX HO6 HM6 HLN2 HVB HB6 HN6 HV9 HN9 HKQ
                        try simp only [Act.put, List.getElem_toArray, List.getElem_cons_zero, List.getElem_cons_succ, List.setIfInBounds_toArray, List.set_cons_zero, List.set_cons_succ]
                        refine wpAnyH_done (by kernel_rfl) ?_ _
                        clear hHeld
                        have HL5 := HY2.out X3 _ HTV.out HKV.out (giv_gv (by rw [HB6h.out]; exact HL4.out.gv) HXO.out.1.1)
                        go_wp2_with fail
                        exact ⟨⟨j + 1, _, _, by omega, by simp, HL5⟩, by simp [intOf]; omega⟩
          case inr =>
            refine (HMW.out w3 1 hkw).mono ?_
            rintro e w' ⟨rfl, hw'⟩
            rw [hw']
            clear hw' w' HMW hkw
            by_cases hd2 : x.d = 2
            case pos =>
              have hd2b : (x.d == 2) = true := by simpa using hd2
              obtain ⟨kn, hkn⟩ : ∃ y, md x.n 100 = y := ⟨_, rfl⟩
              have HMN : Hid (∀ W, Calls Try.prog 8 #[.int .i64 x.n, .int .i64 100] W fun e w' => e = .returned (.int .i64 (kn : Int)) ∧ w' = W) := fun W => mod_any x.n HXO.out.1.2.2 100 (by omega) (by omega) kn hkn W
              have hbd := (HL3.out.bd (by omega)).1
              have HCM := comes1_any w8.heap.size bt tq cq kn w3 HL3.out.ti HN3.out hbd.k (hbd.y 1 (by omega)) (by have := hbd.y 0 (by omega); omega) (hbd.o 1 (by omega)) (hbd.u 1 (by omega)) (comesP tq 1 (min kn (tq.y 1).length)) rfl
              clear hkn hbd
              go_wp2_with fail
              refine (HMN.out w3).mono ?_
              rintro e w' ⟨rfl, hw'⟩
              rw [hw']
              clear hw' w' HMN
              go_wp2_with fail
              refine HCM.mono ?_
              rintro e w4 ⟨rfl, c4, ht4, hb4, hk4⟩
              have HL4 : Hid (LT w w8.heap.size w9 bt c9 d0 i0 h0 d1 i1 h1 (j + 1) w4 (comesP tq 1 (min kn (tq.y 1).length)) c4) := HL3.out.come1 HHS.out ht4 hk4 hb4.2
              obtain ⟨t4, ht4e⟩ : ∃ y, comesP tq 1 (min kn (tq.y 1).length) = y := ⟨_, rfl⟩
              rw [ht4e] at HL4
              clear HCM ht4 hb4 hk4 ht4e
              go_wp2_with fail
              exact ⟨⟨j + 1, t4, c4, by omega, by simp, HL4.out⟩, by simp [intOf]; omega⟩
            case neg =>
              have hd2b : (x.d == 2) = false := by simpa using hd2
              by_cases hd3 : x.d = 3
              case neg =>
                have hd3b : (x.d == 3) = false := by simpa using hd3
                go_wp2_with fail
                exact ⟨⟨j + 1, tq, cq, by omega, by simp, HL3.out.next⟩, by simp [intOf]; omega⟩
              case pos =>
                have hd3b : (x.d == 3) = true := by simpa using hd3
                obtain ⟨sm, hsm⟩ : ∃ t, decide (x.m.lost.length + x.m.hv.length + x.m.rt.path.length + x.m.rt.marks.length + x.m.rt.clus.length ≤ 20000) = t := ⟨_, rfl⟩
                have HSM : Hid (decide (x.m.lost.length + x.m.hv.length + x.m.rt.path.length + x.m.rt.marks.length + x.m.rt.clus.length ≤ 20000) = sm) := hsm
                clear hsm
                go_wp2_with (refine list_sat PmK rfl _ rfl (b := bx) (k := 3) (cs := msL x.m xs) rfl (ts_ms HXB.out) rfl ?_)
                refine (small_any x.m xs HXO.out.2 sm HSM.out w3).mono ?_
                rintro e w4 ⟨rfl, hb4⟩
                have HXB4 : Hid (SB TsK bx (tsL x xs) w4) := HXB.out.blk (hb4.block bx HXB.out.lt)
                have HL4 : Hid (LT w w8.heap.size w9 bt c9 d0 i0 h0 d1 i1 h1 j w4 tq cq) := HL3.out.bel hb4
                have HBW4 : Hid (Below w.heap.size w w4) := HBW3.out.trans (hb4.mono HBW3.out.size)
                clear hb4 HXB HL3 HBW3 HN3 x0 x1 x2
                cases sm with
                | false =>
                  go_wp2_with fail
                  exact ⟨⟨j + 1, tq, cq, by omega, by simp, HL4.out.next⟩, by simp [intOf]; omega⟩
                | true =>
                  have hsum := of_decide_eq_true HSM.out
                  obtain ⟨b, er, hP, hu8, hbl, hno, hyes⟩ := HL4.out.tell1 HHS.out (m := x.m) ⟨HXO.out.1.1.il, HXO.out.1.1.ih, ⟨HXO.out.1.1.r.n0, HXO.out.1.1.r.n1⟩⟩
                  have HPT : Hid (tmP (tq.s 1) x.m tq.clk = ((tq.s 1, ⟨b, []⟩), er)) := hP
                  have HEV : Hid ((∀ d ∈ b, d < 256) ∧ b.length ≤ 1024) := ⟨hu8, hbl⟩
                  have HNO : Hid (er ≠ 0 → _) := hno
                  have HYES : Hid (er = 0 → _) := hyes
                  have HCK : Hid (tq.clk = 0) := (HL4.out.bd (by omega)).2
                  clear hP hu8 hbl hno hyes
                  go_wp2_with fail
                  refine wp_region_held_drew (S := fun W => TC bt cq 0 W ∧ SB TsK bx (tsL x xs) W) (by kernel_rfl) ⟨by have h := (HL4.out.ti.bel (drew_bel w4)).tc; rw [HCK.out] at h; exact h, HXB4.out.blk ((drew_bel w4).block bx HXB4.out.lt)⟩ (fun hHeld => ?_)
                  have HTX : Hid (TI w8.heap.size w4.drew bt tq cq) := HL4.out.ti.bel (drew_bel w4)
                  have HKX : Hid (Kl w9 w4.drew bt c9 cq) := HL4.out.kl.trans (Kl.bel (drew_bel w4))
                  have HBWX : Hid (Below w.heap.size w w4.drew) := HBW4.out.trans ((drew_bel w4).mono HBW4.out.size)
                  obtain ⟨X0, hX0⟩ : ∃ x, w4.drew = x := ⟨_, rfl⟩
                  rw [hX0] at HTX HKX HBWX hHeld ⊢
                  clear hX0
                  have HBXX : Hid (bx < X0.heap.size) := hHeld.2.lt
                  have HN0 : Hid (w8.heap.size ≤ X0.heap.size) := Nat.le_trans HN.out.1 HKX.out.str.size
                  have HTELL : Hid (∀ W, Below X0.heap.size X0 W → Calls Try.prog 15 #[.pointer (some ⟨cq.b 1, 0, none⟩), msV x.m xs, .int .i64 0] W fun e w' => ∃ vb ve c1, e = .returned (.tuple #[.agg #[vb, ve], .int .i64 er]) ∧ Mid w8.heap.size w' bt (sesP tq 1 (tq.s 1)) c1 ⟨b, []⟩ vb ve ∧ Kl W w' bt cq c1 ∧ (c1.b = cq.b ∧ c1.h = cq.h) ∧ (∀ g, fpV vb ve [] g → W.heap.size ≤ g)) := fun W hW => by
                    have h := tell_mid (N := w8.heap.size) (w0 := w) (HTX.out.bel hW) (i := 1) (by omega) (Nat.le_trans HN0.out hW.size) (by rw [HCK.out]; decide) (m := x.m) (sl := xs) ⟨by omega, by omega⟩ HXO.out.1.1 (Nat.le_trans HBWX.out.size hW.size) (fun g hg => (hW.block g (Nat.lt_of_lt_of_le hg HBWX.out.size)).trans (HBWX.out.block g hg)) (HL4.out.lo HN.out.1 HN.out.2 HLO.out) HPT.out
                    rw [HCK.out] at h
                    exact h
                  refine wpAnyH_take (i := 0) (v := .pointer (some ⟨bt, 0, none⟩)) rfl (by kernel_rfl) (by kernel_rfl) (by kernel_rfl) (fun _ _ _ h => h) (Or.inl ⟨by rfl, ?_⟩) (by assumption) ?_
                  case refine_1 => intro W hSw; go_simp; try rfl
                  try simp only [Act.put, List.getElem_toArray, List.getElem_cons_zero, List.getElem_cons_succ, List.setIfInBounds_toArray, List.set_cons_zero, List.set_cons_succ]
                  refine wpAnyH_take (i := 1) (v := .int .i64 1) rfl (by kernel_rfl) (by kernel_rfl) (by kernel_rfl) (fun _ _ _ h => h) (Or.inl ⟨by rfl, ?_⟩) (by assumption) ?_
                  case refine_1 => intro W hSw; go_simp; try rfl
                  try simp only [Act.put, List.getElem_toArray, List.getElem_cons_zero, List.getElem_cons_succ, List.setIfInBounds_toArray, List.set_cons_zero, List.set_cons_succ]
                  refine wpAnyH_take (i := 2) (v := .pointer (some ⟨bt, 0, none⟩)) rfl (by kernel_rfl) (by kernel_rfl) (by kernel_rfl) (fun _ _ _ h => h) (Or.inl ⟨by rfl, ?_⟩) (by assumption) ?_
                  case refine_1 => intro W hSw; go_simp; try rfl
                  try simp only [Act.put, List.getElem_toArray, List.getElem_cons_zero, List.getElem_cons_succ, List.setIfInBounds_toArray, List.set_cons_zero, List.set_cons_succ]
                  refine wpAnyH_take (i := 3) (v := .pointer (some ⟨bt, 0, none⟩)) rfl (by kernel_rfl) (by kernel_rfl) (by kernel_rfl) (fun _ _ _ h => h) (Or.inl ⟨by rfl, ?_⟩) (by assumption) ?_
                  case refine_1 => intro W hSw; go_simp; try rfl
                  try simp only [Act.put, List.getElem_toArray, List.getElem_cons_zero, List.getElem_cons_succ, List.setIfInBounds_toArray, List.set_cons_zero, List.set_cons_succ]
                  refine wpAnyH_take (i := 4) (v := .pointer (some ⟨bt, 1, none⟩)) rfl (by kernel_rfl) (by kernel_rfl) (by kernel_rfl) (fun _ _ _ h => h) (Or.inl ⟨by rfl, ?_⟩) (by assumption) ?_
                  case refine_1 => intro W hSw; go_simp; try rfl
                  try simp only [Act.put, List.getElem_toArray, List.getElem_cons_zero, List.getElem_cons_succ, List.setIfInBounds_toArray, List.set_cons_zero, List.set_cons_succ]
                  refine wpAnyH_take (i := 5) (v := .pointer (some ⟨cq.b 1, 0, none⟩)) rfl (by kernel_rfl) (by kernel_rfl) (by kernel_rfl) (fun _ _ _ h => h) (Or.inl ⟨by rfl, ?_⟩) (by assumption) ?_
                  case refine_1 => intro W hSw; have cc : W.cell? ⟨bt, 1, none⟩ = some (.pointer (some ⟨cq.b 1, 0, none⟩)) := hSw.1.2.1; go_simp; try rfl
                  try simp only [Act.put, List.getElem_toArray, List.getElem_cons_zero, List.getElem_cons_succ, List.setIfInBounds_toArray, List.set_cons_zero, List.set_cons_succ]
                  refine wpAnyH_take (i := 6) (v := .pointer (some ⟨bx, 3, none⟩)) rfl (by kernel_rfl) (by kernel_rfl) (by kernel_rfl) (fun _ _ _ h => h) (Or.inl ⟨by rfl, ?_⟩) (by assumption) ?_
                  case refine_1 => intro W hSw; go_simp; try rfl
                  try simp only [Act.put, List.getElem_toArray, List.getElem_cons_zero, List.getElem_cons_succ, List.setIfInBounds_toArray, List.set_cons_zero, List.set_cons_succ]
                  refine wpAnyH_take (i := 7) (v := .agg (msL x.m xs).toArray) rfl (by kernel_rfl) (by kernel_rfl) (by kernel_rfl) (fun _ _ _ h => h) (Or.inl ⟨by rfl, fun W hSw => sat_run PmK (.tmp 120) rfl (b := bx) (k := 3) rfl (ts_ms hSw.2) rfl⟩) (by assumption) ?_
                  try simp only [Act.put, List.getElem_toArray, List.getElem_cons_zero, List.getElem_cons_succ, List.setIfInBounds_toArray, List.set_cons_zero, List.set_cons_succ]
                  refine wpAnyH_take (i := 8) (v := .pointer (some ⟨bt, 0, none⟩)) rfl (by kernel_rfl) (by kernel_rfl) (by kernel_rfl) (fun _ _ _ h => h) (Or.inl ⟨by rfl, ?_⟩) (by assumption) ?_
                  case refine_1 => intro W hSw; go_simp; try rfl
                  try simp only [Act.put, List.getElem_toArray, List.getElem_cons_zero, List.getElem_cons_succ, List.setIfInBounds_toArray, List.set_cons_zero, List.set_cons_succ]
                  refine wpAnyH_take (i := 9) (v := .pointer (some ⟨bt, 0, none⟩)) rfl (by kernel_rfl) (by kernel_rfl) (by kernel_rfl) (fun _ _ _ h => h) (Or.inl ⟨by rfl, ?_⟩) (by assumption) ?_
                  case refine_1 => intro W hSw; go_simp; try rfl
                  try simp only [Act.put, List.getElem_toArray, List.getElem_cons_zero, List.getElem_cons_succ, List.setIfInBounds_toArray, List.set_cons_zero, List.set_cons_succ]
                  refine wpAnyH_take (i := 10) (v := .pointer (some ⟨bt, 10, none⟩)) rfl (by kernel_rfl) (by kernel_rfl) (by kernel_rfl) (fun _ _ _ h => h) (Or.inl ⟨by rfl, ?_⟩) (by assumption) ?_
                  case refine_1 => intro W hSw; go_simp; try rfl
                  try simp only [Act.put, List.getElem_toArray, List.getElem_cons_zero, List.getElem_cons_succ, List.setIfInBounds_toArray, List.set_cons_zero, List.set_cons_succ]
                  refine wpAnyH_take (i := 11) (v := .int .i64 0) rfl (by kernel_rfl) (by kernel_rfl) (by kernel_rfl) (fun _ _ _ h => h) (Or.inl ⟨by rfl, ?_⟩) (by assumption) ?_
                  case refine_1 => intro W hSw; have cc : W.cell? ⟨bt, 10, none⟩ = some (.int .i64 0) := hSw.1.2.2; go_simp; try rfl
                  try simp only [Act.put, List.getElem_toArray, List.getElem_cons_zero, List.getElem_cons_succ, List.setIfInBounds_toArray, List.set_cons_zero, List.set_cons_succ]
                  refine wpAnyH_ready (rs := [12, 16]) (by kernel_rfl) (by simp) ?_
                  refine AllReadyH.cons rfl (fun K hK => ?_) (AllReadyH.cons rfl (fun K hK => ?_) AllReadyH.nil)
                  case' refine_1 =>
                    go_simp
                    refine (HTELL.out X0 (Below.refl _ _)).mono ?_
                    rintro e X1 ⟨vb, ve, c1, rfl, hmd, hkl, hbh, hfp⟩
                    have HXB5 : Hid (SB TsK bx (tsL x xs) X1) := SB.blk hHeld.2 (hkl.blk bx hHeld.2.lt (fun e => by have := HBX.out bx e; omega))
                    refine hK.out _ _ ⟨by have h : TC bt cq tq.clk X1 := hmd.ti.tc.b hbh.1; rw [HCK.out] at h; exact h, HXB5.out⟩ (fun hHeld => ?_)
                    clear hK K HXB5
                    try simp only [Act.put, List.getElem_toArray, List.getElem_cons_zero, List.getElem_cons_succ, List.setIfInBounds_toArray, List.set_cons_zero, List.set_cons_succ]
                    refine wpAnyH_take (i := 13) (v := ?_) rfl (by kernel_rfl) (by kernel_rfl) (by kernel_rfl) (fun _ _ _ h => h) (Or.inl ⟨by rfl, ?_⟩) (by assumption) ?_
                    case refine_2 => intro W hSw; go_simp; try rfl
                    try simp only [Act.put, List.getElem_toArray, List.getElem_cons_zero, List.getElem_cons_succ, List.setIfInBounds_toArray, List.set_cons_zero, List.set_cons_succ]
                    refine wpAnyH_take (i := 14) (v := .agg #[vb, ve]) rfl (by kernel_rfl) (by kernel_rfl) (by kernel_rfl) (fun _ _ _ h => h) (Or.inl ⟨by rfl, ?_⟩) (by assumption) ?_
                    case refine_1 => intro W hSw; go_simp; try rfl
                    try simp only [Act.put, List.getElem_toArray, List.getElem_cons_zero, List.getElem_cons_succ, List.setIfInBounds_toArray, List.set_cons_zero, List.set_cons_succ]
                    refine wpAnyH_take (i := 15) (v := .int .i64 er) rfl (by kernel_rfl) (by kernel_rfl) (by kernel_rfl) (fun _ _ _ h => h) (Or.inl ⟨by rfl, ?_⟩) (by assumption) ?_
                    case refine_1 => intro W hSw; go_simp; try rfl
                    try simp only [Act.put, List.getElem_toArray, List.getElem_cons_zero, List.getElem_cons_succ, List.setIfInBounds_toArray, List.set_cons_zero, List.set_cons_succ]
                    have HBTL : Hid (bt < X1.heap.size) := hmd.ti.box.lt
                    refine wpAnyH_ready (rs := [16]) (by kernel_rfl) (by simp) ?_
                    refine AllReadyH.cons rfl (fun K hK => ?_) AllReadyH.nil
                    refine oalloc_step rfl rfl (fun X2 bo hbo hbl hbe => ?_)
                    refine hK.out _ _ ⟨TC.keep hHeld.1 (hbl.out.block bt HBTL.out), SB.blk hHeld.2 (hbl.out.block bx hHeld.2.lt)⟩ (fun hHeld => ?_)
                    clear hK K
                    try simp only [Act.put, List.getElem_toArray, List.getElem_cons_zero, List.getElem_cons_succ, List.setIfInBounds_toArray, List.set_cons_zero, List.set_cons_succ]
                    have HM : Hid (Mid w8.heap.size X2 bt (sesP tq 1 (tq.s 1)) c1 ⟨b, []⟩ vb ve) := hmd.bel hbl.out
                    have HKY : Hid (Kl X0 X2 bt cq c1) := hkl.trans (Kl.bel hbl.out)
                    have HBO : Hid (SB OutK bo [.slice none 0 0, .slice none 0 0] X2) := hbo.out
                    have HBOF : Hid (X0.heap.size ≤ bo ∧ ¬ c1.A bt bo ∧ ¬ fpV vb ve [] bo) := by
                      have e := hbe.out
                      refine ⟨by have := hkl.str.size; omega, fun h => ?_, fun h => ?_⟩
                      · have := hmd.ti.lt bo h; omega
                      · have := hmd.ov.lt bo h; omega
                    clear hmd hkl hfp hbo hbl hbe HBTL
                  case' refine_2 =>
                    have HBTL : Hid (bt < X0.heap.size) := HTX.out.box.lt
                    refine oalloc_step rfl rfl (fun X1 bo hbo hbl hbe => ?_)
                    refine hK.out _ _ ⟨TC.keep hHeld.1 (hbl.out.block bt HBTL.out), SB.blk hHeld.2 (hbl.out.block bx hHeld.2.lt)⟩ (fun hHeld => ?_)
                    clear hK K
                    try simp only [Act.put, List.getElem_toArray, List.getElem_cons_zero, List.getElem_cons_succ, List.setIfInBounds_toArray, List.set_cons_zero, List.set_cons_succ]
                    refine wpAnyH_ready (rs := [12]) (by kernel_rfl) (by simp) ?_
                    refine AllReadyH.cons rfl (fun K hK => ?_) AllReadyH.nil
                    go_simp
                    refine (HTELL.out X1 hbl.out).mono ?_
                    rintro e X2 ⟨vb, ve, c1, rfl, hmd, hkl, hbh, hfp⟩
                    have HXB5 : Hid (SB TsK bx (tsL x xs) X2) := SB.blk hHeld.2 (hkl.blk bx hHeld.2.lt (fun e => by have := HBX.out bx e; omega))
                    refine hK.out _ _ ⟨by have h : TC bt cq tq.clk X2 := hmd.ti.tc.b hbh.1; rw [HCK.out] at h; exact h, HXB5.out⟩ (fun hHeld => ?_)
                    clear hK K HXB5
                    try simp only [Act.put, List.getElem_toArray, List.getElem_cons_zero, List.getElem_cons_succ, List.setIfInBounds_toArray, List.set_cons_zero, List.set_cons_succ]
                    refine wpAnyH_take (i := 13) (v := ?_) rfl (by kernel_rfl) (by kernel_rfl) (by kernel_rfl) (fun _ _ _ h => h) (Or.inl ⟨by rfl, ?_⟩) (by assumption) ?_
                    case refine_2 => intro W hSw; go_simp; try rfl
                    try simp only [Act.put, List.getElem_toArray, List.getElem_cons_zero, List.getElem_cons_succ, List.setIfInBounds_toArray, List.set_cons_zero, List.set_cons_succ]
                    refine wpAnyH_take (i := 14) (v := .agg #[vb, ve]) rfl (by kernel_rfl) (by kernel_rfl) (by kernel_rfl) (fun _ _ _ h => h) (Or.inl ⟨by rfl, ?_⟩) (by assumption) ?_
                    case refine_1 => intro W hSw; go_simp; try rfl
                    try simp only [Act.put, List.getElem_toArray, List.getElem_cons_zero, List.getElem_cons_succ, List.setIfInBounds_toArray, List.set_cons_zero, List.set_cons_succ]
                    refine wpAnyH_take (i := 15) (v := .int .i64 er) rfl (by kernel_rfl) (by kernel_rfl) (by kernel_rfl) (fun _ _ _ h => h) (Or.inl ⟨by rfl, ?_⟩) (by assumption) ?_
                    case refine_1 => intro W hSw; go_simp; try rfl
                    try simp only [Act.put, List.getElem_toArray, List.getElem_cons_zero, List.getElem_cons_succ, List.setIfInBounds_toArray, List.set_cons_zero, List.set_cons_succ]
                    have HM : Hid (Mid w8.heap.size X2 bt (sesP tq 1 (tq.s 1)) c1 ⟨b, []⟩ vb ve) := hmd
                    have HKY : Hid (Kl X0 X2 bt cq c1) := (Kl.bel hbl.out).trans hkl
                    have HBOX : Hid (bo < X1.heap.size ∧ bo = X0.heap.size) := ⟨hbo.out.lt, hbe.out⟩
                    have HBO : Hid (SB OutK bo [.slice none 0 0, .slice none 0 0] X2) := hbo.out.blk (hkl.blk bo HBOX.out.1 (fun h => by have := HTX.out.lt bo h; have := HBOX.out; omega))
                    have HBOF : Hid (X0.heap.size ≤ bo ∧ ¬ c1.A bt bo ∧ ¬ fpV vb ve [] bo) := by
                      have e := HBOX.out
                      refine ⟨by omega, fun h => ?_, fun h => ?_⟩
                      · rcases hkl.now bo h with h2 | h2
                        · have := HTX.out.lt bo h2; omega
                        · omega
                      · have := hfp bo h; omega
                    clear hmd hkl hfp hbo hbl hbe HBTL HBOX
                  all_goals
                    have HONE : Hid ([vb, ve].all (·.oneCell') = true) := by
                      obtain ⟨z1, z2, e1, -⟩ := HM.out.ov.bys.form
                      obtain ⟨z3, z4, e2, -⟩ := HM.out.ov.ev.own.form
                      rw [e1, e2]
                      rfl
                    have HBXO : Hid (bx ≠ bo) := fun e => by have := HBOF.out.1; have := HBXX.out; omega
                    have HBTO : Hid (bt ≠ bo) := fun e => HBOF.out.2.1 ⟨0, by omega, e.symm⟩
                    refine wpAnyH_ready (rs := [17]) (by kernel_rfl) (by simp) ?_
                    refine AllReadyH.cons rfl (fun K hK => ?_) AllReadyH.nil
                    refine sstore_step OutK (.tmp 17) (.tmp 127) rfl (b := bo) (cs := [.slice none 0 0, .slice none 0 0]) (cs' := [vb, ve]) rfl rfl HBO.out rfl rfl HONE.out rfl (fun X3 hx3 hk3 => ?_)
                    refine hK.out _ _ ⟨TC.keep hHeld.1 (hk3.out.block bt HBTO.out), SB.blk hHeld.2 (hk3.out.block bx HBXO.out)⟩ (fun hHeld => ?_)
                    clear hK K
                    try simp only [Act.put, List.getElem_toArray, List.getElem_cons_zero, List.getElem_cons_succ, List.setIfInBounds_toArray, List.set_cons_zero, List.set_cons_succ]
                    refine wpAnyH_take (i := 18) (v := .int .i64 er) rfl (by kernel_rfl) (by kernel_rfl) (by kernel_rfl) (fun _ _ _ h => h) (Or.inl ⟨by rfl, ?_⟩) (by assumption) ?_
                    case refine_1 => intro W hSw; go_simp; try rfl
                    try simp only [Act.put, List.getElem_toArray, List.getElem_cons_zero, List.getElem_cons_succ, List.setIfInBounds_toArray, List.set_cons_zero, List.set_cons_succ]
                    refine wpAnyH_done (by kernel_rfl) ?_ _
                    have HM3 : Hid (Mid w8.heap.size X3 bt (sesP tq 1 (tq.s 1)) c1 ⟨b, []⟩ vb ve) := HM.out.ko hk3.out HBOF.out.2.1 HBOF.out.2.2
                    have HK3 : Hid (Kl w9 X3 bt c9 c1) := (HKX.out.trans HKY.out).ko hk3.out (Nat.le_trans HKX.out.str.size HBOF.out.1)
                    have HXB3 : Hid (SB TsK bx (tsL x xs) X3) := hHeld.2
                    have HBO3 : Hid (SB OutK bo [vb, ve] X3) := hx3.out
                    have HB1 : Hid (c1.h = cq.h) := hbh.2
                    have HC1 : Hid (¬ c1.A bt bx) := fun h => by
                      rcases HKY.out.now bx h with h2 | h2
                      · have := HBX.out bx h2; omega
                      · have := HBXX.out; omega
                    have HBO1 : Hid (w9.heap.size ≤ bo ∧ ¬ c1.A bt bo) := ⟨Nat.le_trans HKX.out.str.size HBOF.out.1, HBOF.out.2.1⟩
                    have HN3 : Hid (w8.heap.size ≤ X3.heap.size) := Nat.le_trans HN.out.1 HK3.out.str.size
                    clear hHeld hbh hx3 hk3 HM HKY HBO HBOF HTELL HTX HKX HBWX HBXX HN0 HONE HBXO HBTO
                    have hbd := (HL4.out.bd (by omega)).1
                    have HOUT := mid1_out HM3.out HN3.out HEV.out.1 (by show (tq.y 0).length + b.length ≤ _; have := hbd.y 0 (by omega); have := HEV.out.2; omega) (by show (tq.o 1).length ≤ _; exact hbd.o 1 (by omega)) (by show 0 ≤ tq.u 1 ∧ tq.u 1 ≤ _; exact hbd.u 1 (by omega))
                    clear hbd
                    go_wp2_with (refine list_sload OutK rfl _ rfl (b := bo) (cs := [vb, ve]) rfl HBO3.out rfl ?_)
                    refine HOUT.mono ?_
                    rintro e w6 ⟨rfl, c2, ht6, hk6, hb6⟩
                    have HT6 : Hid (TI w8.heap.size w6 bt (outP (sesP tq 1 (tq.s 1)) 1 ⟨b, []⟩) c2) := ht6
                    have HK6 : Hid (Kl w9 w6 bt c9 c2) := HK3.out.trans hk6
                    have HXB6 : Hid (SB TsK bx (tsL x xs) w6) := HXB3.out.blk (hk6.blk bx HXB3.out.lt HC1.out)
                    have HB6h : Hid (c2.h = cq.h) := hb6.2.trans HB1.out
                    have HC2 : Hid (¬ c2.A bt bx) := fun h => by
                      rcases hk6.now bx h with h2 | h2
                      · exact HC1.out h2
                      · have := HXB3.out.lt; omega
                    clear HOUT ht6 hk6 hb6 HM3 HK3 HXB3 HBO3 HB1 HC1 HBO1 HN3 HEV HPT
                    by_cases her : er = 0
                    case neg =>
                      have herb : (er == 0) = false := by simpa using her
                      have HL5 := HNO.out her w6 c2 HT6.out HK6.out HB6h.out
                      go_wp2_with fail
                      exact ⟨⟨j + 1, _, c2, by omega, by simp, HL5⟩, by simp [intOf]; omega⟩
                    case pos =>
                      have herb : (er == 0) = true := by simpa using her
                      have HGL : Hid (((outP (sesP tq 1 (tq.s 1)) 1 ⟨b, []⟩).g 1).length ≤ j) := (HYES.out her).1
                      obtain ⟨T, hT⟩ : ∃ y, outP (sesP tq 1 (tq.s 1)) 1 ⟨b, []⟩ = y := ⟨_, rfl⟩
                      have HY2 : Hid (∀ wr' c', TI w8.heap.size wr' bt (givT T 1 x.m) c' → Kl w9 wr' bt c9 c' → (∀ i, i < 2 → ∀ p ∈ c'.h i, MOk w p.1 p.2) → LT w w8.heap.size w9 bt c9 d0 i0 h0 d1 i1 h1 (j + 1) wr' (givT T 1 x.m) c') := by rw [← hT]; exact (HYES.out her).2
                      rw [hT] at HT6 HGL
                      clear hT HNO HYES
                      go_wp2_with fail
                      refine wp_region_held_drew (S := fun W => SB TsK bx (tsL x xs) W) (by kernel_rfl) (SB.blk HXB6.out ((drew_bel w6).block bx HXB6.out.lt)) (fun hHeld => ?_)
                      have HTX : Hid (TI w8.heap.size w6.drew bt T c2) := HT6.out.bel (drew_bel w6)
                      have HKX : Hid (Kl w9 w6.drew bt c9 c2) := HK6.out.trans (Kl.bel (drew_bel w6))
                      have HKQ : Hid (Kl w6 w6.drew bt c2 c2) := Kl.bel (drew_bel w6)
                      obtain ⟨X0, hX0⟩ : ∃ x, w6.drew = x := ⟨_, rfl⟩
                      rw [hX0] at HTX HKX HKQ hHeld ⊢
                      clear hX0
                      have HN0 : Hid (w8.heap.size ≤ X0.heap.size) := Nat.le_trans HN.out.1 HKX.out.str.size
                      refine wpAnyH_take (i := 0) (v := .pointer (some ⟨bt, 0, none⟩)) rfl (by kernel_rfl) (by kernel_rfl) (by kernel_rfl) (fun _ _ _ h => h) (Or.inl ⟨by rfl, ?_⟩) (by assumption) ?_
                      case refine_1 => intro W hSw; go_simp; try rfl
                      try simp only [Act.put, List.getElem_toArray, List.getElem_cons_zero, List.getElem_cons_succ, List.setIfInBounds_toArray, List.set_cons_zero, List.set_cons_succ]
                      refine wpAnyH_take (i := 1) (v := .int .i64 1) rfl (by kernel_rfl) (by kernel_rfl) (by kernel_rfl) (fun _ _ _ h => h) (Or.inl ⟨by rfl, ?_⟩) (by assumption) ?_
                      case refine_1 => intro W hSw; go_simp; try rfl
                      try simp only [Act.put, List.getElem_toArray, List.getElem_cons_zero, List.getElem_cons_succ, List.setIfInBounds_toArray, List.set_cons_zero, List.set_cons_succ]
                      refine wpAnyH_take (i := 2) (v := .pointer (some ⟨bt, 0, none⟩)) rfl (by kernel_rfl) (by kernel_rfl) (by kernel_rfl) (fun _ _ _ h => h) (Or.inl ⟨by rfl, ?_⟩) (by assumption) ?_
                      case refine_1 => intro W hSw; go_simp; try rfl
                      try simp only [Act.put, List.getElem_toArray, List.getElem_cons_zero, List.getElem_cons_succ, List.setIfInBounds_toArray, List.set_cons_zero, List.set_cons_succ]
                      refine wpAnyH_take (i := 3) (v := .int .i64 1) rfl (by kernel_rfl) (by kernel_rfl) (by kernel_rfl) (fun _ _ _ h => h) (Or.inl ⟨by rfl, ?_⟩) (by assumption) ?_
                      case refine_1 => intro W hSw; go_simp; try rfl
                      try simp only [Act.put, List.getElem_toArray, List.getElem_cons_zero, List.getElem_cons_succ, List.setIfInBounds_toArray, List.set_cons_zero, List.set_cons_succ]
                      refine wpAnyH_take (i := 4) (v := .pointer (some ⟨bt, 0, none⟩)) rfl (by kernel_rfl) (by kernel_rfl) (by kernel_rfl) (fun _ _ _ h => h) (Or.inl ⟨by rfl, ?_⟩) (by assumption) ?_
                      case refine_1 => intro W hSw; go_simp; try rfl
                      try simp only [Act.put, List.getElem_toArray, List.getElem_cons_zero, List.getElem_cons_succ, List.setIfInBounds_toArray, List.set_cons_zero, List.set_cons_succ]
                      refine wpAnyH_take (i := 5) (v := .pointer (some ⟨bt, 4, none⟩)) rfl (by kernel_rfl) (by kernel_rfl) (by kernel_rfl) (fun _ _ _ h => h) (Or.inl ⟨by rfl, ?_⟩) (by assumption) ?_
                      case refine_1 => intro W hSw; go_simp; try rfl
                      try simp only [Act.put, List.getElem_toArray, List.getElem_cons_zero, List.getElem_cons_succ, List.setIfInBounds_toArray, List.set_cons_zero, List.set_cons_succ]
                      refine wpAnyH_take (i := 6) (v := .pointer (some ⟨bt, 5, none⟩)) rfl (by kernel_rfl) (by kernel_rfl) (by kernel_rfl) (fun _ _ _ h => h) (Or.inl ⟨by rfl, ?_⟩) (by assumption) ?_
                      case refine_1 => intro W hSw; go_simp; try rfl
                      try simp only [Act.put, List.getElem_toArray, List.getElem_cons_zero, List.getElem_cons_succ, List.setIfInBounds_toArray, List.set_cons_zero, List.set_cons_succ]
                      refine wpAnyH_take (i := 8) (v := .pointer (some ⟨bx, 3, none⟩)) rfl (by kernel_rfl) (by kernel_rfl) (by kernel_rfl) (fun _ _ _ h => h) (Or.inl ⟨by rfl, ?_⟩) (by assumption) ?_
                      case refine_1 => intro W hSw; go_simp; try rfl
                      try simp only [Act.put, List.getElem_toArray, List.getElem_cons_zero, List.getElem_cons_succ, List.setIfInBounds_toArray, List.set_cons_zero, List.set_cons_succ]
                      refine wpAnyH_take (i := 9) (v := .agg (msL x.m xs).toArray) rfl (by kernel_rfl) (by kernel_rfl) (by kernel_rfl) (fun _ _ _ h => h) (Or.inl ⟨by rfl, fun W hSw => sat_run PmK (.tmp 144) rfl (b := bx) (k := 3) rfl (ts_ms hSw) rfl⟩) (by assumption) ?_
                      try simp only [Act.put, List.getElem_toArray, List.getElem_cons_zero, List.getElem_cons_succ, List.setIfInBounds_toArray, List.set_cons_zero, List.set_cons_succ]
                      refine wpAnyH_take (i := 12) (v := .pointer (some ⟨bt, 0, none⟩)) rfl (by kernel_rfl) (by kernel_rfl) (by kernel_rfl) (fun _ _ _ h => h) (Or.inl ⟨by rfl, ?_⟩) (by assumption) ?_
                      case refine_1 => intro W hSw; go_simp; try rfl
                      try simp only [Act.put, List.getElem_toArray, List.getElem_cons_zero, List.getElem_cons_succ, List.setIfInBounds_toArray, List.set_cons_zero, List.set_cons_succ]
                      refine wpAnyH_take (i := 13) (v := .pointer (some ⟨bt, 4, none⟩)) rfl (by kernel_rfl) (by kernel_rfl) (by kernel_rfl) (fun _ _ _ h => h) (Or.inl ⟨by rfl, ?_⟩) (by assumption) ?_
                      case refine_1 => intro W hSw; go_simp; try rfl
                      try simp only [Act.put, List.getElem_toArray, List.getElem_cons_zero, List.getElem_cons_succ, List.setIfInBounds_toArray, List.set_cons_zero, List.set_cons_succ]
                      obtain ⟨va9, vc9, hv9, -⟩ := (HTX.out.g 1 (by omega)).1.form
                      obtain ⟨n9, hn9⟩ : ∃ y, (c2.h 1).length = y := ⟨_, rfl⟩
                      have HN9 : Hid ((c2.h 1).length = n9) := hn9
                      rw [hn9] at hv9
                      have HV9 : Hid (c2.g 1 = .slice va9 n9 vc9) := hv9
                      have c1v : X0.cell? ⟨bt, 5, none⟩ = some (.slice va9 n9 vc9) := by rw [← hv9]; exact HTX.out.box.cell 5
                      clear hn9 hv9
                      have HB6 : Hid (Below X0.heap.size X0 (X0.alloc (Obj.cells (msL x.m xs).toArray 54))) := (Below.refl _ X0).alloc (Nat.le_refl _) _
                      have HN6 : Hid ((X0.alloc (Obj.cells (msL x.m xs).toArray 54)).heap[X0.heap.size]? = some (Obj.cells (msL x.m xs).toArray 54)) := World.alloc_heap_new X0 _
                      have c2v : (X0.alloc (Obj.cells (msL x.m xs).toArray 54)).cell? ⟨bt, 5, none⟩ = some (.slice va9 n9 vc9) := (World.cell?_of_block (w := X0) (HB6.out.block bt HTX.out.box.lt)).trans c1v
                      refine wpAnyH_ready (rs := [7, 10]) (by kernel_rfl) (by simp) ?_
                      refine AllReadyH.cons rfl (fun K hK => ?_) (AllReadyH.cons rfl (fun K hK => ?_) AllReadyH.nil)
                      case' refine_1 =>
                        go_simp
                        refine hK.out _ _ hHeld (fun hHeld => ?_)
                        clear hK K c1v c2v
                        try simp only [Act.put, List.getElem_toArray, List.getElem_cons_zero, List.getElem_cons_succ, List.setIfInBounds_toArray, List.set_cons_zero, List.set_cons_succ]
                        refine wpAnyH_ready (rs := [10]) (by kernel_rfl) (by simp) ?_
                        refine AllReadyH.cons rfl (fun K hK => ?_) AllReadyH.nil
                        refine step_run rfl (mbuild_run (.tmp 145) rfl (m := x.m) (s := xs) rfl) ?_
                        refine hK.out _ _ (SB.blk hHeld (HB6.out.block _ hHeld.lt)) (fun hHeld => ?_)
                        obtain ⟨X1, hX1⟩ : ∃ y, X0.alloc (Obj.cells (msL x.m xs).toArray 54) = y := ⟨_, rfl⟩
                        
                        rw [hX1] at HB6 HN6 hHeld ⊢
                        clear hX1 hK K
                        try simp only [Act.put, List.getElem_toArray, List.getElem_cons_zero, List.getElem_cons_succ, List.setIfInBounds_toArray, List.set_cons_zero, List.set_cons_succ]
                      case' refine_2 =>
                        refine step_run rfl (mbuild_run (.tmp 145) rfl (m := x.m) (s := xs) rfl) ?_
                        refine hK.out _ _ (SB.blk hHeld (HB6.out.block _ hHeld.lt)) (fun hHeld => ?_)
                        obtain ⟨X1, hX1⟩ : ∃ y, X0.alloc (Obj.cells (msL x.m xs).toArray 54) = y := ⟨_, rfl⟩
                        
                        rw [hX1] at HB6 HN6 hHeld c2v ⊢
                        clear hX1 hK K c1v
                        try simp only [Act.put, List.getElem_toArray, List.getElem_cons_zero, List.getElem_cons_succ, List.setIfInBounds_toArray, List.set_cons_zero, List.set_cons_succ]
                        refine wpAnyH_ready (rs := [7]) (by kernel_rfl) (by simp) ?_
                        refine AllReadyH.cons rfl (fun K hK => ?_) AllReadyH.nil
                        go_simp
                        refine hK.out _ _ hHeld (fun hHeld => ?_)
                        clear hK K c2v
                        try simp only [Act.put, List.getElem_toArray, List.getElem_cons_zero, List.getElem_cons_succ, List.setIfInBounds_toArray, List.set_cons_zero, List.set_cons_succ]
                      all_goals
                        refine wpAnyH_ready (rs := [11]) (by kernel_rfl) (by simp) ?_
                        refine AllReadyH.cons rfl (fun K hK => ?_) AllReadyH.nil
                        have HO6 : Hid (Gm.OwnL E17 w8.heap.size X1 (.slice va9 n9 vc9) (c2.h 1)) := by rw [← HV9.out]; exact (HTX.out.g 1 (by omega)).1.bel HB6.out
                        have HM6 : Hid (w8.heap.size ≤ X1.heap.size) := Nat.le_trans HN0.out HB6.out.size
                        have HLN2 : Hid ((c2.h 1).length ≤ 137438953471) := by
                          show _ ≤ _
                          have h5 := HGL.out
                          have h6 := (HTX.out.g 1 (by omega)).2
                          rw [← h6, List.length_map] at h5
                          omega
                        have HVB : Hid (∀ g, (Value.slice va9 n9 vc9).ownBlock = some g → c2.A bt g ∧ g ≠ bt) := fun g e => by
                          rw [← HV9.out] at e
                          have h5 : c2.F bt 6 g := e
                          exact ⟨⟨6, by omega, h5⟩, fun e2 => HTX.out.d 6 0 (by omega) (by omega) (by omega) g h5 e2⟩
                        refine gstep_app1 E17 _ _ 39 rfl rfl w8.heap.size (.slice va9 n9 vc9) (c2.h 1) (x.m, xs) HLN2.out X1 rfl HO6.out X0.heap.size rfl HM6.out HN6.out rfl (fun v7 X2 ho7 hg7 ha7 => ?_)
                        refine hK.out _ _ (SB.blk hHeld (hg7.out.block _ hHeld.lt (fun e2 => HC2.out (HVB.out _ e2.symm).1))) (fun hHeld => ?_)
                        clear hK K
                        try simp only [Act.put, List.getElem_toArray, List.getElem_cons_zero, List.getElem_cons_succ, List.setIfInBounds_toArray, List.set_cons_zero, List.set_cons_succ]
                        refine wpAnyH_take (i := 14) (v := .pointer (some ⟨bt, 5, none⟩)) rfl (by kernel_rfl) (by kernel_rfl) (by kernel_rfl) (fun _ _ _ h => h) (Or.inl ⟨by rfl, ?_⟩) (by assumption) ?_
                        case refine_1 => intro W hSw; go_simp; try rfl
                        try simp only [Act.put, List.getElem_toArray, List.getElem_cons_zero, List.getElem_cons_succ, List.setIfInBounds_toArray, List.set_cons_zero, List.set_cons_succ]
                        refine wpAnyH_ready (rs := [15]) (by kernel_rfl) (by simp) ?_
                        refine AllReadyH.cons rfl (fun K hK => ?_) AllReadyH.nil
                        have HBXT : Hid (SB TaK bt (taL (T) c2) X2) := (HTX.out.box.blk (HB6.out.block bt HTX.out.box.lt)).blk (hg7.out.block _ (Nat.lt_of_lt_of_le HTX.out.box.lt HB6.out.size) (fun e2 => (HVB.out _ e2.symm).2 rfl))
                        have f1 : X2.frozen? ⟨bt, 5, none⟩ = false := HBXT.out.fro 5
                        have c1w : X2.cell? ⟨bt, 5, none⟩ = some (c2.g 1) := HBXT.out.cell 5
                        obtain ⟨va7, vc7, hv7, -⟩ := ho7.out.form
                        obtain ⟨n7, hn7⟩ : ∃ y, (c2.h 1 ++ [(x.m, xs)]).length = y := ⟨_, rfl⟩
                        rw [hn7] at hv7
                        subst hv7
                        have HB8 : Hid (SB TaK bt (taL (givT (T) 1 x.m) (givC c2 1 (.slice va7 n7 vc7) x.m xs)) (X2.setCell ⟨bt, 5, none⟩ (.slice va7 n7 vc7))) := HBXT.out.set 5 _ rfl
                        have HK8 : Hid (Ko X2 bt (X2.setCell ⟨bt, 5, none⟩ (.slice va7 n7 vc7))) := Ko.set _ _ _ _
                        have HTU := TI.giv HTX.out (by omega) HB6.out ho7.out (by rw [HV9.out]; exact hg7.out) (by rw [HV9.out]; exact ha7.out.imp id (fun e2 => ⟨_, HB6.out.size, e2⟩)) HK8.out HB8.out
                        go_simp
                        refine hK.out _ _ (SB.blk hHeld (HK8.out.block bx (fun e => HC2.out ⟨0, by omega, e⟩))) (fun hHeld => ?_)
                        clear hK K f1 c1w
                        obtain ⟨X3, hX3⟩ : ∃ y, X2.setCell ⟨bt, 5, none⟩ (.slice va7 n7 vc7) = y := ⟨_, rfl⟩
                        rw [hX3] at HTU hHeld ⊢
                        have HTV : Hid (TI w8.heap.size X3 bt (givT (T) 1 x.m) (givC c2 1 (.slice va7 n7 vc7) x.m xs)) := HTU.1
                        have HKV : Hid (Kl w9 X3 bt c9 (givC c2 1 (.slice va7 n7 vc7) x.m xs)) := HKX.out.trans HTU.2
                        have HKW : Hid (Kl w6 X3 bt c2 (givC c2 1 (.slice va7 n7 vc7) x.m xs)) := HKQ.out.trans HTU.2
                        clear hX3 HTU HB8 HK8 HBXT hn7 ho7 hg7 ha7 HKX HTX HO6 HM6 HLN2 HVB HB6 HN6 HV9 HN9 HKQ
                        try simp only [Act.put, List.getElem_toArray, List.getElem_cons_zero, List.getElem_cons_succ, List.setIfInBounds_toArray, List.set_cons_zero, List.set_cons_succ]
                        refine wpAnyH_done (by kernel_rfl) ?_ _
                        clear hHeld
                        have HL5 := HY2.out X3 _ HTV.out HKV.out (giv_gv (by rw [HB6h.out]; exact HL4.out.gv) HXO.out.1.1)
                        go_wp2_with fail
                        exact ⟨⟨j + 1, _, _, by omega, by simp, HL5⟩, by simp [intOf]; omega⟩
        case neg =>
          have hjli : ¬ (j : Int) < (nl : Int) := by omega
          obtain ⟨gx0, gx1, gy0, gy1, go0, go1, g0, g1, hv, D0, D1, l0, l1⟩ := HL.out.v
          obtain ⟨bd1, bd2, hv20⟩ := talks HHS.out D0 D1 ⟨by omega, by omega⟩ hv
          have HSE := settle_any w8.heap.size bt tq cq wq HL.out.ti (Nat.le_trans HN.out.1 HL.out.kl.str.size) bd1 bd2 true (rest_true (vw_y hv20).1 (vw_y hv20).2)
          have HV20 : Hid (vw (bothN 20 tq) = vX d0 i0 h0 d1 i1 h1 [] [] [] [] g1 g0 g0 g1) := hv20
          have HGN : Hid (g0.length ≤ 60 ∧ g1.length ≤ 60) := ⟨by omega, by omega⟩
          clear hv D0 D1 l0 l1 bd1 bd2 hv20
          go_wp2_with fail
          refine HSE.mono ?_
          rintro e w14 ⟨rfl, c5, hsi⟩
          obtain ⟨t3, ht3⟩ : ∃ y, bothN 20 tq = y := ⟨_, rfl⟩
          rw [ht3] at hsi HV20
          clear ht3 HSE
          have HU : Hid (∀ j, j < ArK.k → w14.cell? ⟨bt, 8 + j, none⟩ = ([.int .i64 1, .int .i64 1] : List Value)[j]?) := fun j hj => by
            have e0 : w14.cell? ⟨bt, 8, none⟩ = some (.int .i64 (t3.u 0)) := hsi.ti.box.cell 8
            have e1 : w14.cell? ⟨bt, 9, none⟩ = some (.int .i64 (t3.u 1)) := hsi.ti.box.cell 9
            rw [(vw_parts HV20.out).2.2.1.1] at e0
            rw [(vw_parts HV20.out).2.2.1.2] at e1
            have hj2 : j < 2 := hj
            match j, hj2 with
            | 0, _ => exact e0
            | 1, _ => exact e1
          have HT5 : Hid (TI w8.heap.size w14 bt t3 c5) := hsi.ti
          have HK5 : Hid (Kl w9 w14 bt c9 c5) := HL.out.kl.trans hsi.k
          have HG5 : Hid (∀ i, i < 2 → ∀ p ∈ c5.h i, MOk w p.1 p.2) := by rw [hsi.h]; exact HL.out.gv
          clear hsi HL
          go_wp2_with (first | (refine list_satw ArK rfl _ rfl (b := bt) (k := 8) (cs := [.int .i64 1, .int .i64 1]) rfl HU.out rfl ?_) | (refine list_neq2w rfl _ _ rfl rfl rfl ?_))
          clear HU
          have HTX : Hid (TI w8.heap.size w14.drew bt t3 c5) := HT5.out.bel (drew_bel w14)
          have HKX : Hid (Kl w9 w14.drew bt c9 c5) := HK5.out.trans (Kl.bel (drew_bel w14))
          obtain ⟨X0, hX0⟩ : ∃ x, w14.drew = x := ⟨_, rfl⟩
          rw [hX0] at HTX HKX
          have HBWX : Hid (Below w.heap.size w X0) := HBE9.out.trans ((HKX.out.below HN.out.1 HLO.out).mono HN.out.2)
          obtain ⟨n1, hn1⟩ : ∃ y, g1.length = y := ⟨_, rfl⟩
          obtain ⟨n0, hn0⟩ : ∃ y, g0.length = y := ⟨_, rfl⟩
          have M0 : (c5.l 0).map (fun p => p.1) = g1 := (HTX.out.o 0 (by omega)).2.trans (vw_parts HV20.out).2.2.2.1.1
          have M1 : (c5.l 1).map (fun p => p.1) = g0 := (HTX.out.o 1 (by omega)).2.trans (vw_parts HV20.out).2.2.2.1.2
          have G0 : (c5.h 0).map (fun p => p.1) = g0 := (HTX.out.g 0 (by omega)).2.trans (vw_parts HV20.out).2.2.2.2.1.1
          have G1 : (c5.h 1).map (fun p => p.1) = g1 := (HTX.out.g 1 (by omega)).2.trans (vw_parts HV20.out).2.2.2.2.1.2
          have N0 : (c5.l 0).length = n1 := by rw [← hn1, ← M0, List.length_map]
          have N1 : (c5.l 1).length = n0 := by rw [← hn0, ← M1, List.length_map]
          have P0 : (c5.h 0).length = n0 := by rw [← hn0, ← G0, List.length_map]
          have P1 : (c5.h 1).length = n1 := by rw [← hn1, ← G1, List.length_map]
          obtain ⟨a0, k0, e0, -⟩ := (HTX.out.o 0 (by omega)).1.own.form
          obtain ⟨a1, k1, e1, -⟩ := (HTX.out.o 1 (by omega)).1.own.form
          obtain ⟨b0', m0, f0, -⟩ := (HTX.out.g 0 (by omega)).1.form
          obtain ⟨b1', m1, f1, -⟩ := (HTX.out.g 1 (by omega)).1.form
          rw [N0] at e0
          rw [N1] at e1
          rw [P0] at f0
          rw [P1] at f1
          have HA0 : Hid (∀ W, Below X0.heap.size X0 W → Calls Try.prog 16 #[.slice a0 n1 k0, .slice b1' n1 m1] W fun e w' => e = .returned (.bool true) ∧ Below W.heap.size W w') := fun W hW => by
            have q1 := (HTX.out.o 0 (by omega)).1
            have q2 := (HTX.out.g 1 (by omega)).1
            rw [e0] at q1
            rw [f1] at q2
            exact all_any (c5.l 0) (c5.h 1) a0 b1' n1 k0 m1 W (q1.own.lst.1.bel hW) (q2.lst.1.bel hW) N0 P1 (fun p hp => (q1.each p hp).ok.bel hW) (fun p hp => (HG5.out 1 (by omega) p hp).bel (HBWX.out.trans (hW.mono HBWX.out.size))) (M0.trans G1.symm)
          have HA1 : Hid (∀ W, Below X0.heap.size X0 W → Calls Try.prog 16 #[.slice a1 n0 k1, .slice b0' n0 m0] W fun e w' => e = .returned (.bool true) ∧ Below W.heap.size W w') := fun W hW => by
            have q1 := (HTX.out.o 1 (by omega)).1
            have q2 := (HTX.out.g 0 (by omega)).1
            rw [e1] at q1
            rw [f0] at q2
            exact all_any (c5.l 1) (c5.h 0) a1 b0' n0 k1 m0 W (q1.own.lst.1.bel hW) (q2.lst.1.bel hW) N1 P0 (fun p hp => (q1.each p hp).ok.bel hW) (fun p hp => (HG5.out 0 (by omega) p hp).bel (HBWX.out.trans (hW.mono HBWX.out.size))) (M1.trans G0.symm)
          have c6 : X0.cell? ⟨bt, 6, none⟩ = some (.slice a0 n1 k0) := by rw [← e0]; exact HTX.out.box.cell 6
          have c7 : X0.cell? ⟨bt, 7, none⟩ = some (.slice a1 n0 k1) := by rw [← e1]; exact HTX.out.box.cell 7
          have c4 : X0.cell? ⟨bt, 4, none⟩ = some (.slice b0' n0 m0) := by rw [← f0]; exact HTX.out.box.cell 4
          have c5' : X0.cell? ⟨bt, 5, none⟩ = some (.slice b1' n1 m1) := by rw [← f1]; exact HTX.out.box.cell 5
          have HBT : Hid (bt < X0.heap.size) := HTX.out.box.lt
          clear e0 e1 f0 f1 N0 N1 P0 P1 M0 M1 G0 G1 hn0 hn1
          refine wp_region_held_drew (S := fun W => Below X0.heap.size X0 W ∧ W.cell? ⟨bt, 6, none⟩ = some (.slice a0 n1 k0) ∧ W.cell? ⟨bt, 7, none⟩ = some (.slice a1 n0 k1) ∧ W.cell? ⟨bt, 4, none⟩ = some (.slice b0' n0 m0) ∧ W.cell? ⟨bt, 5, none⟩ = some (.slice b1' n1 m1)) (by kernel_rfl) (by rw [hX0]; exact ⟨Below.refl _ _, c6, c7, c4, c5'⟩) (fun hHeld => ?_)
          rw [hX0] at hHeld ⊢
          clear hX0 c6 c7 c4 c5'
          refine wpAnyH_take (i := 0) (v := .pointer (some ⟨bt, 0, none⟩)) rfl (by kernel_rfl) (by kernel_rfl) (by kernel_rfl) (fun _ _ _ h => h) (Or.inl ⟨by rfl, ?_⟩) (by assumption) ?_
          case refine_1 => intro W hSw; go_simp; try rfl
          try simp only [Act.put, List.getElem_toArray, List.getElem_cons_zero, List.getElem_cons_succ, List.setIfInBounds_toArray, List.set_cons_zero, List.set_cons_succ]
          refine wpAnyH_take (i := 1) (v := .pointer (some ⟨bt, 0, none⟩)) rfl (by kernel_rfl) (by kernel_rfl) (by kernel_rfl) (fun _ _ _ h => h) (Or.inl ⟨by rfl, ?_⟩) (by assumption) ?_
          case refine_1 => intro W hSw; go_simp; try rfl
          try simp only [Act.put, List.getElem_toArray, List.getElem_cons_zero, List.getElem_cons_succ, List.setIfInBounds_toArray, List.set_cons_zero, List.set_cons_succ]
          refine wpAnyH_take (i := 2) (v := .pointer (some ⟨bt, 6, none⟩)) rfl (by kernel_rfl) (by kernel_rfl) (by kernel_rfl) (fun _ _ _ h => h) (Or.inl ⟨by rfl, ?_⟩) (by assumption) ?_
          case refine_1 => intro W hSw; go_simp; try rfl
          try simp only [Act.put, List.getElem_toArray, List.getElem_cons_zero, List.getElem_cons_succ, List.setIfInBounds_toArray, List.set_cons_zero, List.set_cons_succ]
          refine wpAnyH_take (i := 3) (v := .pointer (some ⟨bt, 6, none⟩)) rfl (by kernel_rfl) (by kernel_rfl) (by kernel_rfl) (fun _ _ _ h => h) (Or.inl ⟨by rfl, ?_⟩) (by assumption) ?_
          case refine_1 => intro W hSw; go_simp; try rfl
          try simp only [Act.put, List.getElem_toArray, List.getElem_cons_zero, List.getElem_cons_succ, List.setIfInBounds_toArray, List.set_cons_zero, List.set_cons_succ]
          refine wpAnyH_take (i := 4) (v := .slice a0 n1 k0) rfl (by kernel_rfl) (by kernel_rfl) (by kernel_rfl) (fun _ _ _ h => h) (Or.inl ⟨by rfl, ?_⟩) (by assumption) ?_
          case refine_1 => intro W hSw; have cc : W.cell? ⟨bt, 6, none⟩ = some (.slice a0 n1 k0) := hSw.2.1; go_simp; try rfl
          try simp only [Act.put, List.getElem_toArray, List.getElem_cons_zero, List.getElem_cons_succ, List.setIfInBounds_toArray, List.set_cons_zero, List.set_cons_succ]
          refine wpAnyH_take (i := 5) (v := .pointer (some ⟨bt, 0, none⟩)) rfl (by kernel_rfl) (by kernel_rfl) (by kernel_rfl) (fun _ _ _ h => h) (Or.inl ⟨by rfl, ?_⟩) (by assumption) ?_
          case refine_1 => intro W hSw; go_simp; try rfl
          try simp only [Act.put, List.getElem_toArray, List.getElem_cons_zero, List.getElem_cons_succ, List.setIfInBounds_toArray, List.set_cons_zero, List.set_cons_succ]
          refine wpAnyH_take (i := 6) (v := .pointer (some ⟨bt, 0, none⟩)) rfl (by kernel_rfl) (by kernel_rfl) (by kernel_rfl) (fun _ _ _ h => h) (Or.inl ⟨by rfl, ?_⟩) (by assumption) ?_
          case refine_1 => intro W hSw; go_simp; try rfl
          try simp only [Act.put, List.getElem_toArray, List.getElem_cons_zero, List.getElem_cons_succ, List.setIfInBounds_toArray, List.set_cons_zero, List.set_cons_succ]
          refine wpAnyH_take (i := 7) (v := .pointer (some ⟨bt, 4, none⟩)) rfl (by kernel_rfl) (by kernel_rfl) (by kernel_rfl) (fun _ _ _ h => h) (Or.inl ⟨by rfl, ?_⟩) (by assumption) ?_
          case refine_1 => intro W hSw; go_simp; try rfl
          try simp only [Act.put, List.getElem_toArray, List.getElem_cons_zero, List.getElem_cons_succ, List.setIfInBounds_toArray, List.set_cons_zero, List.set_cons_succ]
          refine wpAnyH_take (i := 8) (v := .pointer (some ⟨bt, 5, none⟩)) rfl (by kernel_rfl) (by kernel_rfl) (by kernel_rfl) (fun _ _ _ h => h) (Or.inl ⟨by rfl, ?_⟩) (by assumption) ?_
          case refine_1 => intro W hSw; go_simp; try rfl
          try simp only [Act.put, List.getElem_toArray, List.getElem_cons_zero, List.getElem_cons_succ, List.setIfInBounds_toArray, List.set_cons_zero, List.set_cons_succ]
          refine wpAnyH_take (i := 9) (v := .slice b1' n1 m1) rfl (by kernel_rfl) (by kernel_rfl) (by kernel_rfl) (fun _ _ _ h => h) (Or.inl ⟨by rfl, ?_⟩) (by assumption) ?_
          case refine_1 => intro W hSw; have cc : W.cell? ⟨bt, 5, none⟩ = some (.slice b1' n1 m1) := hSw.2.2.2.2; go_simp; try rfl
          try simp only [Act.put, List.getElem_toArray, List.getElem_cons_zero, List.getElem_cons_succ, List.setIfInBounds_toArray, List.set_cons_zero, List.set_cons_succ]
          refine wpAnyH_ready (rs := [10]) (by kernel_rfl) (by simp) ?_
          refine AllReadyH.cons rfl (fun K hK => ?_) AllReadyH.nil
          go_simp
          refine (HA0.out X0 hHeld.1).mono ?_
          rintro e X1 ⟨rfl, hb⟩
          have HBB : Hid (Below X0.heap.size X0 X1) := hHeld.1.trans (hb.mono hHeld.1.size)
          have hcell : X1.heap[bt]? = X0.heap[bt]? := hb.block bt (Nat.lt_of_lt_of_le HBT.out hHeld.1.size)
          refine hK.out _ _ ⟨HBB.out, (World.cell?_of_block hcell).trans hHeld.2.1, (World.cell?_of_block hcell).trans hHeld.2.2.1, (World.cell?_of_block hcell).trans hHeld.2.2.2.1, (World.cell?_of_block hcell).trans hHeld.2.2.2.2⟩ (fun hHeld => ?_)
          clear hK K hb hcell HBB
          try simp only [Act.put, List.getElem_toArray, List.getElem_cons_zero, List.getElem_cons_succ, List.setIfInBounds_toArray, List.set_cons_zero, List.set_cons_succ]
          refine wpAnyH_take (i := 11) (v := .bool true) rfl (by kernel_rfl) (by kernel_rfl) (by kernel_rfl) (fun _ _ _ h => h) (Or.inl ⟨by rfl, ?_⟩) (by assumption) ?_
          case refine_1 => intro W hSw; go_simp; try rfl
          try simp only [Act.put, List.getElem_toArray, List.getElem_cons_zero, List.getElem_cons_succ, List.setIfInBounds_toArray, List.set_cons_zero, List.set_cons_succ]
          refine wpAnyH_take (i := 12) (v := .pointer (some ⟨bt, 0, none⟩)) rfl (by kernel_rfl) (by kernel_rfl) (by kernel_rfl) (fun _ _ _ h => h) (Or.inl ⟨by rfl, ?_⟩) (by assumption) ?_
          case refine_1 => intro W hSw; go_simp; try rfl
          try simp only [Act.put, List.getElem_toArray, List.getElem_cons_zero, List.getElem_cons_succ, List.setIfInBounds_toArray, List.set_cons_zero, List.set_cons_succ]
          refine wpAnyH_take (i := 13) (v := .pointer (some ⟨bt, 0, none⟩)) rfl (by kernel_rfl) (by kernel_rfl) (by kernel_rfl) (fun _ _ _ h => h) (Or.inl ⟨by rfl, ?_⟩) (by assumption) ?_
          case refine_1 => intro W hSw; go_simp; try rfl
          try simp only [Act.put, List.getElem_toArray, List.getElem_cons_zero, List.getElem_cons_succ, List.setIfInBounds_toArray, List.set_cons_zero, List.set_cons_succ]
          refine wpAnyH_take (i := 14) (v := .pointer (some ⟨bt, 6, none⟩)) rfl (by kernel_rfl) (by kernel_rfl) (by kernel_rfl) (fun _ _ _ h => h) (Or.inl ⟨by rfl, ?_⟩) (by assumption) ?_
          case refine_1 => intro W hSw; go_simp; try rfl
          try simp only [Act.put, List.getElem_toArray, List.getElem_cons_zero, List.getElem_cons_succ, List.setIfInBounds_toArray, List.set_cons_zero, List.set_cons_succ]
          refine wpAnyH_take (i := 15) (v := .pointer (some ⟨bt, 7, none⟩)) rfl (by kernel_rfl) (by kernel_rfl) (by kernel_rfl) (fun _ _ _ h => h) (Or.inl ⟨by rfl, ?_⟩) (by assumption) ?_
          case refine_1 => intro W hSw; go_simp; try rfl
          try simp only [Act.put, List.getElem_toArray, List.getElem_cons_zero, List.getElem_cons_succ, List.setIfInBounds_toArray, List.set_cons_zero, List.set_cons_succ]
          refine wpAnyH_take (i := 16) (v := .slice a1 n0 k1) rfl (by kernel_rfl) (by kernel_rfl) (by kernel_rfl) (fun _ _ _ h => h) (Or.inl ⟨by rfl, ?_⟩) (by assumption) ?_
          case refine_1 => intro W hSw; have cc : W.cell? ⟨bt, 7, none⟩ = some (.slice a1 n0 k1) := hSw.2.2.1; go_simp; try rfl
          try simp only [Act.put, List.getElem_toArray, List.getElem_cons_zero, List.getElem_cons_succ, List.setIfInBounds_toArray, List.set_cons_zero, List.set_cons_succ]
          refine wpAnyH_take (i := 17) (v := .pointer (some ⟨bt, 0, none⟩)) rfl (by kernel_rfl) (by kernel_rfl) (by kernel_rfl) (fun _ _ _ h => h) (Or.inl ⟨by rfl, ?_⟩) (by assumption) ?_
          case refine_1 => intro W hSw; go_simp; try rfl
          try simp only [Act.put, List.getElem_toArray, List.getElem_cons_zero, List.getElem_cons_succ, List.setIfInBounds_toArray, List.set_cons_zero, List.set_cons_succ]
          refine wpAnyH_take (i := 18) (v := .pointer (some ⟨bt, 0, none⟩)) rfl (by kernel_rfl) (by kernel_rfl) (by kernel_rfl) (fun _ _ _ h => h) (Or.inl ⟨by rfl, ?_⟩) (by assumption) ?_
          case refine_1 => intro W hSw; go_simp; try rfl
          try simp only [Act.put, List.getElem_toArray, List.getElem_cons_zero, List.getElem_cons_succ, List.setIfInBounds_toArray, List.set_cons_zero, List.set_cons_succ]
          refine wpAnyH_take (i := 19) (v := .pointer (some ⟨bt, 4, none⟩)) rfl (by kernel_rfl) (by kernel_rfl) (by kernel_rfl) (fun _ _ _ h => h) (Or.inl ⟨by rfl, ?_⟩) (by assumption) ?_
          case refine_1 => intro W hSw; go_simp; try rfl
          try simp only [Act.put, List.getElem_toArray, List.getElem_cons_zero, List.getElem_cons_succ, List.setIfInBounds_toArray, List.set_cons_zero, List.set_cons_succ]
          refine wpAnyH_take (i := 20) (v := .pointer (some ⟨bt, 4, none⟩)) rfl (by kernel_rfl) (by kernel_rfl) (by kernel_rfl) (fun _ _ _ h => h) (Or.inl ⟨by rfl, ?_⟩) (by assumption) ?_
          case refine_1 => intro W hSw; go_simp; try rfl
          try simp only [Act.put, List.getElem_toArray, List.getElem_cons_zero, List.getElem_cons_succ, List.setIfInBounds_toArray, List.set_cons_zero, List.set_cons_succ]
          refine wpAnyH_take (i := 21) (v := .slice b0' n0 m0) rfl (by kernel_rfl) (by kernel_rfl) (by kernel_rfl) (fun _ _ _ h => h) (Or.inl ⟨by rfl, ?_⟩) (by assumption) ?_
          case refine_1 => intro W hSw; have cc : W.cell? ⟨bt, 4, none⟩ = some (.slice b0' n0 m0) := hSw.2.2.2.1; go_simp; try rfl
          try simp only [Act.put, List.getElem_toArray, List.getElem_cons_zero, List.getElem_cons_succ, List.setIfInBounds_toArray, List.set_cons_zero, List.set_cons_succ]
          refine wpAnyH_ready (rs := [22]) (by kernel_rfl) (by simp) ?_
          refine AllReadyH.cons rfl (fun K hK => ?_) AllReadyH.nil
          go_simp
          refine (HA1.out X1 hHeld.1).mono ?_
          rintro e X2 ⟨rfl, hb⟩
          have HBB : Hid (Below X0.heap.size X0 X2) := hHeld.1.trans (hb.mono hHeld.1.size)
          have hcell : X2.heap[bt]? = X1.heap[bt]? := hb.block bt (Nat.lt_of_lt_of_le HBT.out hHeld.1.size)
          refine hK.out _ _ ⟨HBB.out, (World.cell?_of_block hcell).trans hHeld.2.1, (World.cell?_of_block hcell).trans hHeld.2.2.1, (World.cell?_of_block hcell).trans hHeld.2.2.2.1, (World.cell?_of_block hcell).trans hHeld.2.2.2.2⟩ (fun hHeld => ?_)
          clear hK K hb hcell HBB
          try simp only [Act.put, List.getElem_toArray, List.getElem_cons_zero, List.getElem_cons_succ, List.setIfInBounds_toArray, List.set_cons_zero, List.set_cons_succ]
          refine wpAnyH_take (i := 23) (v := .bool true) rfl (by kernel_rfl) (by kernel_rfl) (by kernel_rfl) (fun _ _ _ h => h) (Or.inl ⟨by rfl, ?_⟩) (by assumption) ?_
          case refine_1 => intro W hSw; go_simp; try rfl
          try simp only [Act.put, List.getElem_toArray, List.getElem_cons_zero, List.getElem_cons_succ, List.setIfInBounds_toArray, List.set_cons_zero, List.set_cons_succ]
          refine wpAnyH_take (i := 24) (v := .bool true) rfl (by kernel_rfl) (by kernel_rfl) (by kernel_rfl) (fun _ _ _ h => h) (Or.inl ⟨by rfl, ?_⟩) (by assumption) ?_
          case refine_1 => intro W hSw; go_simp; try rfl
          try simp only [Act.put, List.getElem_toArray, List.getElem_cons_zero, List.getElem_cons_succ, List.setIfInBounds_toArray, List.set_cons_zero, List.set_cons_succ]
          refine wpAnyH_done (by kernel_rfl) ?_ _
          have HBB : Hid (Below w.heap.size w X2) := HBWX.out.trans (hHeld.1.mono HBWX.out.size)
          clear hHeld
          go_wp2_with fail
          go_ret
          exact ⟨rfl, HBB.out⟩
end Go.Proofs.Ytanboekdfdafmaa.Pv
