/- SpfSame; spfSame of the same. spfApart: growing one list of an answer leaves the others as they are. -/
import Derived.Test.YthhdpfgepjmgkaaMgF
import Derived.Test.YthhdpfgepjmgkaaMgB
namespace Go.Proofs.Ythhdpfgepjmgkaa.Dj
open Go.ChangeShapes Go.WideShapes Go.ChangeAt Go.RowKit Go.Joins Go.Deep Go.Proofs.Ythhdpfgepjmgkaa.Ge
set_option linter.unusedVariables false
set_option linter.unusedSimpArgs false

def Sme (p q : Rc) : Prop := p.n = q.n ∧ p.d = q.d ∧ p.ls = q.ls
theorem iz_cell {w W : World} {lb lo : Nat} {xs : List Int} (h : Lst EI w (some ⟨lb, lo, none⟩) xs) (hb : Below w.heap.size w W) {j : Nat} {x : Int} (hx : xs[j]? = some x) : W.cell? ⟨lb, lo + j, none⟩ = some (.int .i64 x) := by
  obtain ⟨hj, rfl⟩ := List.getElem?_eq_some_iff.1 hx
  obtain ⟨b, o, e, -, hc⟩ := (h.bel hb).cells j hj
  cases e
  have h1 := hc 0 (by decide)
  have h2 : lo + j * EI.k + 0 = lo + j := by show lo + j * 1 + 0 = _; omega
  rw [h2] at h1
  exact h1
set_option maxRecDepth 100000 in
set_option maxHeartbeats 32000000 in
theorem rsame_any (p q : Rc) (w : World) (hp : Lst EI w p.a p.ls) (hq : Lst EI w q.a q.ls) (hl : p.ls.length < 1000000000) : Calls Try.prog 20 #[.agg (rcL p).toArray, .agg (rcL q).toArray] w (BpPost w (Sme p q)) := by
  obtain ⟨pn, pd, ps, pa, pc⟩ := p
  obtain ⟨qn, qd, qs, qa, qc⟩ := q
  dsimp only at hp hq hl
  have HX : Hid (Lst EI w pa ps ∧ Lst EI w qa qs) := ⟨hp, hq⟩
  obtain ⟨m, hm⟩ : ∃ y, ps.length = y := ⟨_, rfl⟩
  obtain ⟨k, hk⟩ : ∃ y, qs.length = y := ⟨_, rfl⟩
  have HL : Hid (ps.length = m ∧ qs.length = k) := ⟨hm, hk⟩
  have hm0 : (m : Int) < 1000000000 := by omega
  have hm2 : (0 : Int) ≤ (m : Int) := by omega
  have hkb : (k : Int) ≤ 9223372036854775807 := by have := hq.small; omega
  clear hp hq hl
  unfold rcL
  dsimp only
  rw [hm, hk]
  clear hm hk
  go_enter Try.func20, Try.ntmps20
  go_wp2_with (refine list_boxl RcK rfl _ rfl (cs := [.int .i64 pn, .int .i64 pd, .slice pa m pc]) rfl ?_)
  intro b2 w1 hb hs hbl
  have HS1 : Hid (SB RcK b2 [.int .i64 pn, .int .i64 pd, .slice pa m pc] w1 ∧ Below w.heap.size w w1) := ⟨hs.out, hbl.out⟩
  clear hb hs hbl
  go_wp2_with (refine list_boxl RcK rfl _ rfl (cs := [.int .i64 qn, .int .i64 qd, .slice qa k qc]) rfl ?_)
  intro b3 w2 hb hs hbl
  have HS2 : Hid (SB RcK b3 [.int .i64 qn, .int .i64 qd, .slice qa k qc] w2 ∧ SB RcK b2 [.int .i64 pn, .int .i64 pd, .slice pa m pc] w2 ∧ Below w.heap.size w w2) := ⟨hs.out, HS1.out.1.blk (hbl.out.block b2 HS1.out.1.lt), HS1.out.2.trans (hbl.out.mono HS1.out.2.size)⟩
  have c20 : w2.cell? ⟨b2, 0, none⟩ = some (.int .i64 pn) := HS2.out.2.1.cell 0
  have c21 : w2.cell? ⟨b2, 1, none⟩ = some (.int .i64 pd) := HS2.out.2.1.cell 1
  have c22 : w2.cell? ⟨b2, 2, none⟩ = some (.slice pa m pc) := HS2.out.2.1.cell 2
  have c30 : w2.cell? ⟨b3, 0, none⟩ = some (.int .i64 qn) := HS2.out.1.cell 0
  have c31 : w2.cell? ⟨b3, 1, none⟩ = some (.int .i64 qd) := HS2.out.1.cell 1
  have c32 : w2.cell? ⟨b3, 2, none⟩ = some (.slice qa k qc) := HS2.out.1.cell 2
  clear hb hs hbl HS1
  by_cases h1 : pn = qn
  case neg =>
    have HE : Hid (BpPost w (Sme ⟨pn, pd, ps, pa, pc⟩ ⟨qn, qd, qs, qa, qc⟩) (.returned (.bool false)) w2) := ⟨false, rfl, ⟨fun c => (by cases c), fun c => absurd c.1 h1⟩, HS2.out.2.2⟩
    have hb1 : (pn != qn) = true := by simp [h1]
    clear h1
    go_wp2_with fail
    go_ret
    exact HE.out
  have hb1 : (pn != qn) = false := by simp [h1]
  have H1 : Hid (pn = qn) := h1
  clear h1
  by_cases h2 : pd = qd
  case neg =>
    have HE : Hid (BpPost w (Sme ⟨pn, pd, ps, pa, pc⟩ ⟨qn, qd, qs, qa, qc⟩) (.returned (.bool false)) w2) := ⟨false, rfl, ⟨fun c => (by cases c), fun c => absurd c.2.1 h2⟩, HS2.out.2.2⟩
    have hb2 : (pd != qd) = true := by simp [h2]
    clear h2
    go_wp2_with fail
    go_ret
    exact HE.out
  have hb2 : (pd != qd) = false := by simp [h2]
  have H2 : Hid (pd = qd) := h2
  clear h2
  by_cases h3 : (m : Int) = (k : Int)
  case neg =>
    have HE : Hid (BpPost w (Sme ⟨pn, pd, ps, pa, pc⟩ ⟨qn, qd, qs, qa, qc⟩) (.returned (.bool false)) w2) := ⟨false, rfl, ⟨fun c => (by cases c), fun c => absurd (congrArg List.length c.2.2) (by show ¬ ps.length = qs.length; have := HL.out; omega)⟩, HS2.out.2.2⟩
    have hb3 : ((m : Int) != (k : Int)) = true := bne_iff_ne.2 h3
    clear h3
    go_wp2_with fail
    go_ret
    exact HE.out
  have hb3 : ((m : Int) != (k : Int)) = false := by simp [h3]
  have H3 : Hid (m = k) := by show m = k; omega
  clear h3
  go_wp2_with fail
  clear c20 c21 c22 c30 c31 c32 hb1 hb2 hb3
  go_loopw [30, 5] (fun iv _ wr => ∃ (i : Nat), i ≤ m ∧ iv = .int .i64 (i : Int) ∧ Below w2.heap.size w2 wr ∧ ∀ t, t < i → ps[t]? = qs[t]?) (fun iv _ _ => m - (intOf iv).toNat)
  case atStart => exact ⟨0, Nat.zero_le _, rfl, Below.refl _ _, fun t h => absurd h (Nat.not_lt_zero t)⟩
  case round =>
    obtain ⟨i, him, rfl, hbl, hsm⟩ := hrel
    obtain ⟨wz, hwz⟩ : ∃ y, wr = y := ⟨_, rfl⟩
    rw [hwz] at hbl ⊢
    have HI : Hid (Below w2.heap.size w2 wz ∧ i ≤ m ∧ ∀ t, t < i → ps[t]? = qs[t]?) := ⟨hbl, him, hsm⟩
    have hi0 : (i : Int) < 1000000000 := by omega
    have hi2 : (0 : Int) ≤ (i : Int) := by omega
    clear hbl hsm hwz
    by_cases hlt : i < m
    case neg =>
      have hii : ¬ (i : Int) < (m : Int) := by omega
      have HE : Hid (BpPost w (Sme ⟨pn, pd, ps, pa, pc⟩ ⟨qn, qd, qs, qa, qc⟩) (.returned (.bool true)) wz) := ⟨true, rfl, ⟨fun _ => ⟨H1.out, H2.out, show ps = qs from List.ext_getElem? (fun t => by
        rcases Nat.lt_or_ge t i with c | c
        · exact HI.out.2.2 t c
        · rw [List.getElem?_eq_none (by have := HL.out; omega), List.getElem?_eq_none (by have := HL.out; have := H3.out; omega)])⟩, fun _ => rfl⟩, HS2.out.2.2.trans (HI.out.1.mono HS2.out.2.2.size)⟩
      go_wp2_with fail
      go_ret
      exact HE.out
    have hii : (i : Int) < (m : Int) := by omega
    have hik : (i : Int) < (k : Int) := by have := H3.out; omega
    obtain ⟨x, hx⟩ : ∃ y, ps[i]? = some y := ⟨ps[i]'(by have := HL.out; omega), List.getElem?_eq_getElem _⟩
    obtain ⟨y, hy⟩ : ∃ y, qs[i]? = some y := ⟨qs[i]'(by have := HL.out; have := H3.out; omega), List.getElem?_eq_getElem _⟩
    have HXY : Hid (ps[i]? = some x ∧ qs[i]? = some y) := ⟨hx, hy⟩
    obtain ⟨pb, po, rfl, -, -⟩ := HX.out.1.cells i (by have := HL.out; omega)
    obtain ⟨qb, qo, rfl, -, -⟩ := HX.out.2.cells i (by have := HL.out; have := H3.out; omega)
    clear hx hy
    obtain ⟨wd, hwd⟩ : ∃ y, wz.drew = y := ⟨_, rfl⟩
    have HWD : Hid (wz.drew = wd) := hwd
    have HBD : Hid (Below w2.heap.size w2 wd) := by rw [← hwd]; exact HI.out.1.trans ((drew_bel wz).mono HI.out.1.size)
    clear hwd
    have HB0 : Hid (Below w.heap.size w wd) := HS2.out.2.2.trans (HBD.out.mono HS2.out.2.2.size)
    have HM : Hid (wd.cell? ⟨b2, 2, none⟩ = some (.slice (some ⟨pb, po, none⟩) m pc) ∧ wd.cell? ⟨b3, 2, none⟩ = some (.slice (some ⟨qb, qo, none⟩) k qc) ∧ wd.cell? ⟨pb, po + i, none⟩ = some (.int .i64 x) ∧ wd.cell? ⟨qb, qo + i, none⟩ = some (.int .i64 y)) := ⟨(HS2.out.2.1.blk (HBD.out.block b2 HS2.out.2.1.lt)).cell 2, (HS2.out.1.blk (HBD.out.block b3 HS2.out.1.lt)).cell 2, iz_cell HX.out.1 HB0.out HXY.out.1, iz_cell HX.out.2 HB0.out HXY.out.2⟩
    go_upto_region 6 with fail
    refine wp_region_held_drew (S := fun W => W = wd) (by kernel_rfl) HWD.out (fun hHeld => ?_)
    rw [HWD.out] at hHeld ⊢
    refine wpAnyH_take (i := 0) (v := .pointer (some ⟨b2, 2, none⟩)) rfl (by kernel_rfl) (by kernel_rfl) (by kernel_rfl) (fun _ _ _ h => h) (Or.inl ⟨by rfl, ?_⟩) (by assumption) ?_
    case refine_1 => intro W hSw; go_simp; try rfl
    try simp only [Act.put, List.getElem_toArray, List.getElem_cons_zero, List.getElem_cons_succ, List.setIfInBounds_toArray, List.set_cons_zero, List.set_cons_succ]
    refine wpAnyH_take (i := 1) (v := .slice (some ⟨pb, po, none⟩) m pc) rfl (by kernel_rfl) (by kernel_rfl) (by kernel_rfl) (fun _ _ _ h => h) (Or.inl ⟨by rfl, ?_⟩) (by assumption) ?_
    case refine_1 => intro W hSw; rw [hSw]; have k1 := HM.out.1; go_simp; try rfl
    try simp only [Act.put, List.getElem_toArray, List.getElem_cons_zero, List.getElem_cons_succ, List.setIfInBounds_toArray, List.set_cons_zero, List.set_cons_succ]
    refine wpAnyH_take (i := 2) (v := .int .i64 (i : Int)) rfl (by kernel_rfl) (by kernel_rfl) (by kernel_rfl) (fun _ _ _ h => h) (Or.inl ⟨by rfl, ?_⟩) (by assumption) ?_
    case refine_1 => intro W hSw; go_simp; try rfl
    try simp only [Act.put, List.getElem_toArray, List.getElem_cons_zero, List.getElem_cons_succ, List.setIfInBounds_toArray, List.set_cons_zero, List.set_cons_succ]
    refine wpAnyH_take (i := 3) (v := .pointer (some ⟨pb, po + i, none⟩)) rfl (by kernel_rfl) (by kernel_rfl) (by kernel_rfl) (fun _ _ _ h => h) (Or.inl ⟨by rfl, ?_⟩) (by assumption) ?_
    case refine_1 => intro W hSw; go_simp; try rfl
    try simp only [Act.put, List.getElem_toArray, List.getElem_cons_zero, List.getElem_cons_succ, List.setIfInBounds_toArray, List.set_cons_zero, List.set_cons_succ]
    refine wpAnyH_take (i := 4) (v := .int .i64 x) rfl (by kernel_rfl) (by kernel_rfl) (by kernel_rfl) (fun _ _ _ h => h) (Or.inl ⟨by rfl, ?_⟩) (by assumption) ?_
    case refine_1 => intro W hSw; rw [hSw]; have k1 := HM.out.2.2.1; go_simp; try rfl
    try simp only [Act.put, List.getElem_toArray, List.getElem_cons_zero, List.getElem_cons_succ, List.setIfInBounds_toArray, List.set_cons_zero, List.set_cons_succ]
    refine wpAnyH_take (i := 5) (v := .pointer (some ⟨b3, 2, none⟩)) rfl (by kernel_rfl) (by kernel_rfl) (by kernel_rfl) (fun _ _ _ h => h) (Or.inl ⟨by rfl, ?_⟩) (by assumption) ?_
    case refine_1 => intro W hSw; go_simp; try rfl
    try simp only [Act.put, List.getElem_toArray, List.getElem_cons_zero, List.getElem_cons_succ, List.setIfInBounds_toArray, List.set_cons_zero, List.set_cons_succ]
    refine wpAnyH_take (i := 6) (v := .slice (some ⟨qb, qo, none⟩) k qc) rfl (by kernel_rfl) (by kernel_rfl) (by kernel_rfl) (fun _ _ _ h => h) (Or.inl ⟨by rfl, ?_⟩) (by assumption) ?_
    case refine_1 => intro W hSw; rw [hSw]; have k1 := HM.out.2.1; go_simp; try rfl
    try simp only [Act.put, List.getElem_toArray, List.getElem_cons_zero, List.getElem_cons_succ, List.setIfInBounds_toArray, List.set_cons_zero, List.set_cons_succ]
    refine wpAnyH_take (i := 7) (v := .int .i64 (i : Int)) rfl (by kernel_rfl) (by kernel_rfl) (by kernel_rfl) (fun _ _ _ h => h) (Or.inl ⟨by rfl, ?_⟩) (by assumption) ?_
    case refine_1 => intro W hSw; go_simp; try rfl
    try simp only [Act.put, List.getElem_toArray, List.getElem_cons_zero, List.getElem_cons_succ, List.setIfInBounds_toArray, List.set_cons_zero, List.set_cons_succ]
    refine wpAnyH_take (i := 8) (v := .pointer (some ⟨qb, qo + i, none⟩)) rfl (by kernel_rfl) (by kernel_rfl) (by kernel_rfl) (fun _ _ _ h => h) (Or.inl ⟨by rfl, ?_⟩) (by assumption) ?_
    case refine_1 => intro W hSw; go_simp; try rfl
    try simp only [Act.put, List.getElem_toArray, List.getElem_cons_zero, List.getElem_cons_succ, List.setIfInBounds_toArray, List.set_cons_zero, List.set_cons_succ]
    refine wpAnyH_take (i := 9) (v := .int .i64 y) rfl (by kernel_rfl) (by kernel_rfl) (by kernel_rfl) (fun _ _ _ h => h) (Or.inl ⟨by rfl, ?_⟩) (by assumption) ?_
    case refine_1 => intro W hSw; rw [hSw]; have k1 := HM.out.2.2.2; go_simp; try rfl
    try simp only [Act.put, List.getElem_toArray, List.getElem_cons_zero, List.getElem_cons_succ, List.setIfInBounds_toArray, List.set_cons_zero, List.set_cons_succ]
    by_cases hxy : x = y
    case neg =>
      have HE : Hid (BpPost w (Sme ⟨pn, pd, ps, some ⟨pb, po, none⟩, pc⟩ ⟨qn, qd, qs, some ⟨qb, qo, none⟩, qc⟩) (.returned (.bool false)) wd) := ⟨false, rfl, ⟨fun c => (by cases c), fun c => absurd c.2.2 (fun e => by
        have e2 : ps = qs := e
        have h1 := HXY.out
        rw [e2, h1.2] at h1
        exact hxy (Option.some.inj h1.1).symm)⟩, HB0.out⟩
      have hbx : (x != y) = true := by simp [hxy]
      clear hxy
      refine wpAnyH_take (i := 10) (v := .bool true) rfl (by kernel_rfl) (by kernel_rfl) (by kernel_rfl) (fun _ _ _ h => h) (Or.inl ⟨by rfl, ?_⟩) (by assumption) ?_
      case refine_1 => intro W hSw; go_simp; try rfl
      try simp only [Act.put, List.getElem_toArray, List.getElem_cons_zero, List.getElem_cons_succ, List.setIfInBounds_toArray, List.set_cons_zero, List.set_cons_succ]
      refine wpAnyH_done (by kernel_rfl) ?_ _
      clear hHeld
      go_wp2_with fail
      go_ret
      exact HE.out
    have HG : Hid (∃ (i2 : Nat), i2 ≤ m ∧ Value.int .i64 (↑i + 1) = .int .i64 (i2 : Int) ∧ Below w2.heap.size w2 wd ∧ ∀ t, t < i2 → ps[t]? = qs[t]?) := ⟨i + 1, by omega, by simp, HBD.out, fun t ht => by
      by_cases c : t = i
      · subst c
        rw [HXY.out.1, HXY.out.2, hxy]
      · exact HI.out.2.2 t (by omega)⟩
    have hbx : (x != y) = false := by simp [hxy]
    clear hxy
    refine wpAnyH_take (i := 10) (v := .bool false) rfl (by kernel_rfl) (by kernel_rfl) (by kernel_rfl) (fun _ _ _ h => h) (Or.inl ⟨by rfl, ?_⟩) (by assumption) ?_
    case refine_1 => intro W hSw; go_simp; try rfl
    try simp only [Act.put, List.getElem_toArray, List.getElem_cons_zero, List.getElem_cons_succ, List.setIfInBounds_toArray, List.set_cons_zero, List.set_cons_succ]
    refine wpAnyH_done (by kernel_rfl) ?_ _
    clear hHeld
    go_wp2_with fail
    refine ⟨HG.out, ?_⟩
    simp [intOf]
    omega
theorem rc_cells {w W : World} {lb lo : Nat} {rs : List Rc} (h : Lst ER w (some ⟨lb, lo, none⟩) rs) (hb : Below w.heap.size w W) {j : Nat} {x : Rc} (hx : rs[j]? = some x) (q : Nat) (hq : q < 3) : W.cell? ⟨lb, lo + j * 3 + q, none⟩ = (rcL x)[q]? := by
  obtain ⟨hj, rfl⟩ := List.getElem?_eq_some_iff.1 hx
  obtain ⟨b, o, e, -, hc⟩ := (h.bel hb).cells j hj
  cases e
  exact hc q hq
/-- a list of ways, to be read -/
structure Rd (w : World) (a : Option Addr) (m : Nat) (rs : List Rc) : Prop where
  l : Lst ER w a rs
  n : rs.length = m
  b : m < 1000000000
  ck : ∀ q ∈ rs, Lst EI w q.a q.ls ∧ q.ls.length < 1000000000
theorem Rd.bel {w W : World} {a : Option Addr} {m : Nat} {rs : List Rc} (h : Rd w a m rs) (hb : Below w.heap.size w W) : Rd W a m rs := ⟨h.l.bel hb, h.n, h.b, fun q hq => ⟨(h.ck q hq).1.bel hb, (h.ck q hq).2⟩⟩
set_option maxRecDepth 100000 in
set_option maxHeartbeats 32000000 in
theorem lsame_any (a : Option Addr) (m c : Nat) (xs : List Rc) (a2 : Option Addr) (m2 c2 : Nat) (ys : List Rc) (w : World) (hx : Rd w a m xs) (hy : Rd w a2 m2 ys) (he : xs.map key = ys.map key) : Calls Try.prog 8 #[.slice a m c, .slice a2 m2 c2] w (BlPost w true) := by
  have hmm : m = m2 := by have h1 := congrArg List.length he; rw [List.length_map, List.length_map, hx.n, hy.n] at h1; exact h1
  subst hmm
  have HX : Hid (Rd w a m xs ∧ Rd w a2 m ys ∧ xs.map key = ys.map key) := ⟨hx, hy, he⟩
  have hm0 : (m : Int) < 1000000000 := by have := hx.b; omega
  have hm2 : (0 : Int) ≤ (m : Int) := by omega
  have hb0 : ((m : Int) != (m : Int)) = false := by simp
  clear hx hy he
  go_enter Try.func8, Try.ntmps8
  go_wp2_with fail
  clear hb0
  go_loopw [13, 5] (fun iv _ wr => ∃ (i : Nat), i ≤ m ∧ iv = .int .i64 (i : Int) ∧ Below w.heap.size w wr) (fun iv _ _ => m - (intOf iv).toNat)
  case atStart => exact ⟨0, Nat.zero_le _, rfl, Below.refl _ _⟩
  case round =>
    obtain ⟨i, him, rfl, hbl⟩ := hrel
    obtain ⟨wz, hwz⟩ : ∃ y, wr = y := ⟨_, rfl⟩
    rw [hwz] at hbl ⊢
    have HI : Hid (Below w.heap.size w wz) := hbl
    have hi0 : (i : Int) < 1000000000 := by omega
    have hi2 : (0 : Int) ≤ (i : Int) := by omega
    clear hbl hwz
    by_cases hlt : i < m
    case neg =>
      have hii : ¬ (i : Int) < (m : Int) := by omega
      have HE : Hid (BlPost w true (.returned (.bool true)) wz) := ⟨rfl, HI.out⟩
      go_wp2_with fail
      go_ret
      exact HE.out
    have hii : (i : Int) < (m : Int) := by omega
    obtain ⟨x, hx⟩ : ∃ y, xs[i]? = some y := ⟨xs[i]'(by have := HX.out.1.n; omega), List.getElem?_eq_getElem _⟩
    obtain ⟨y, hy⟩ : ∃ y, ys[i]? = some y := ⟨ys[i]'(by have := HX.out.2.1.n; omega), List.getElem?_eq_getElem _⟩
    have HXY : Hid (xs[i]? = some x ∧ ys[i]? = some y ∧ Sme x y) := ⟨hx, hy, by
      have h1 : (xs.map key)[i]? = some (key x) := by rw [List.getElem?_map, hx]; rfl
      rw [HX.out.2.2, List.getElem?_map, hy] at h1
      have h2 : key y = key x := Option.some.inj h1
      unfold key at h2
      have h3 := Prod.ext_iff.1 h2
      have h4 := Prod.ext_iff.1 h3.2
      exact ⟨h3.1.symm, h4.1.symm, h4.2.symm⟩⟩
    obtain ⟨pb, po, rfl, -, -⟩ := HX.out.1.l.cells i (by have := HX.out.1.n; omega)
    obtain ⟨qb, qo, rfl, -, -⟩ := HX.out.2.1.l.cells i (by have := HX.out.2.1.n; omega)
    clear hx hy
    obtain ⟨wd, hwd⟩ : ∃ y, wz.drew = y := ⟨_, rfl⟩
    have HWD : Hid (wz.drew = wd) := hwd
    have HBD : Hid (Below w.heap.size w wd) := by rw [← hwd]; exact HI.out.trans ((drew_bel wz).mono HI.out.size)
    clear hwd
    have HCX : Hid (∀ W, Below w.heap.size w W → ∀ q, q < 3 → W.cell? ⟨pb, po + i * 3 + q, none⟩ = (rcL x)[q]?) := fun W hW q hq => rc_cells HX.out.1.l hW HXY.out.1 q hq
    have HCY : Hid (∀ W, Below w.heap.size w W → ∀ q, q < 3 → W.cell? ⟨qb, qo + i * 3 + q, none⟩ = (rcL y)[q]?) := fun W hW q hq => rc_cells HX.out.2.1.l hW HXY.out.2.1 q hq
    go_upto_region 6 with fail
    refine wp_region_held_drew (S := fun W => Below w.heap.size w W) (by kernel_rfl) (by rw [HWD.out]; exact HBD.out) (fun hHeld => ?_)
    rw [HWD.out] at hHeld ⊢
    refine wpAnyH_take (i := 0) (v := .slice (some ⟨pb, po, none⟩) m c) rfl (by kernel_rfl) (by kernel_rfl) (by kernel_rfl) (fun _ _ _ h => h) (Or.inl ⟨by rfl, ?_⟩) (by assumption) ?_
    case refine_1 => intro W hSw; go_simp; try rfl
    try simp only [Act.put, List.getElem_toArray, List.getElem_cons_zero, List.getElem_cons_succ, List.setIfInBounds_toArray, List.set_cons_zero, List.set_cons_succ]
    refine wpAnyH_take (i := 1) (v := .int .i64 (i : Int)) rfl (by kernel_rfl) (by kernel_rfl) (by kernel_rfl) (fun _ _ _ h => h) (Or.inl ⟨by rfl, ?_⟩) (by assumption) ?_
    case refine_1 => intro W hSw; go_simp; try rfl
    try simp only [Act.put, List.getElem_toArray, List.getElem_cons_zero, List.getElem_cons_succ, List.setIfInBounds_toArray, List.set_cons_zero, List.set_cons_succ]
    refine wpAnyH_take (i := 2) (v := .pointer (some ⟨pb, po + i * 3, none⟩)) rfl (by kernel_rfl) (by kernel_rfl) (by kernel_rfl) (fun _ _ _ h => h) (Or.inl ⟨by rfl, ?_⟩) (by assumption) ?_
    case refine_1 => intro W hSw; go_simp; try rfl
    try simp only [Act.put, List.getElem_toArray, List.getElem_cons_zero, List.getElem_cons_succ, List.setIfInBounds_toArray, List.set_cons_zero, List.set_cons_succ]
    refine wpAnyH_take (i := 3) (v := .agg (rcL x).toArray) rfl (by kernel_rfl) (by kernel_rfl) (by kernel_rfl) (fun _ _ _ h => h) (Or.inl ⟨by rfl, (fun W hSw => sat_run RcK (.tmp 18) rfl (b := pb) (k := po + i * 3) rfl (HCX.out W hSw) rfl)⟩) (by assumption) ?_
    try simp only [Act.put, List.getElem_toArray, List.getElem_cons_zero, List.getElem_cons_succ, List.setIfInBounds_toArray, List.set_cons_zero, List.set_cons_succ]
    refine wpAnyH_take (i := 4) (v := .slice (some ⟨qb, qo, none⟩) m c2) rfl (by kernel_rfl) (by kernel_rfl) (by kernel_rfl) (fun _ _ _ h => h) (Or.inl ⟨by rfl, ?_⟩) (by assumption) ?_
    case refine_1 => intro W hSw; go_simp; try rfl
    try simp only [Act.put, List.getElem_toArray, List.getElem_cons_zero, List.getElem_cons_succ, List.setIfInBounds_toArray, List.set_cons_zero, List.set_cons_succ]
    refine wpAnyH_take (i := 5) (v := .int .i64 (i : Int)) rfl (by kernel_rfl) (by kernel_rfl) (by kernel_rfl) (fun _ _ _ h => h) (Or.inl ⟨by rfl, ?_⟩) (by assumption) ?_
    case refine_1 => intro W hSw; go_simp; try rfl
    try simp only [Act.put, List.getElem_toArray, List.getElem_cons_zero, List.getElem_cons_succ, List.setIfInBounds_toArray, List.set_cons_zero, List.set_cons_succ]
    refine wpAnyH_take (i := 6) (v := .pointer (some ⟨qb, qo + i * 3, none⟩)) rfl (by kernel_rfl) (by kernel_rfl) (by kernel_rfl) (fun _ _ _ h => h) (Or.inl ⟨by rfl, ?_⟩) (by assumption) ?_
    case refine_1 => intro W hSw; go_simp; try rfl
    try simp only [Act.put, List.getElem_toArray, List.getElem_cons_zero, List.getElem_cons_succ, List.setIfInBounds_toArray, List.set_cons_zero, List.set_cons_succ]
    refine wpAnyH_take (i := 7) (v := .agg (rcL y).toArray) rfl (by kernel_rfl) (by kernel_rfl) (by kernel_rfl) (fun _ _ _ h => h) (Or.inl ⟨by rfl, (fun W hSw => sat_run RcK (.tmp 22) rfl (b := qb) (k := qo + i * 3) rfl (HCY.out W hSw) rfl)⟩) (by assumption) ?_
    try simp only [Act.put, List.getElem_toArray, List.getElem_cons_zero, List.getElem_cons_succ, List.setIfInBounds_toArray, List.set_cons_zero, List.set_cons_succ]
    refine wpAnyH_ready (rs := [8]) (by kernel_rfl) (by simp) ?_
    refine AllReadyH.cons rfl (fun K hK => ?_) AllReadyH.nil
    go_simp
    refine (rsame_any x y wd ((HX.out.1.ck x (List.mem_of_getElem? HXY.out.1)).1.bel HBD.out) ((HX.out.2.1.ck y (List.mem_of_getElem? HXY.out.2.1)).1.bel HBD.out) (HX.out.1.ck x (List.mem_of_getElem? HXY.out.1)).2).mono ?_
    rintro e0 wf ⟨r, rfl, hr, hbf⟩
    have hrt : r = true := hr.2 HXY.out.2.2
    subst hrt
    have HBF : Hid (Below w.heap.size w wf) := HBD.out.trans (hbf.mono HBD.out.size)
    refine hK.out _ _ HBF.out (fun hHeld => ?_)
    clear hK K hbf hr
    try simp only [Act.put, List.getElem_toArray, List.getElem_cons_zero, List.getElem_cons_succ, List.setIfInBounds_toArray, List.set_cons_zero, List.set_cons_succ]
    refine wpAnyH_take (i := 9) (v := .bool false) rfl (by kernel_rfl) (by kernel_rfl) (by kernel_rfl) (fun _ _ _ h => h) (Or.inl ⟨by rfl, ?_⟩) (by assumption) ?_
    case refine_1 => intro W hSw; go_simp; try rfl
    try simp only [Act.put, List.getElem_toArray, List.getElem_cons_zero, List.getElem_cons_succ, List.setIfInBounds_toArray, List.set_cons_zero, List.set_cons_succ]
    refine wpAnyH_done (by kernel_rfl) ?_ _
    clear hHeld
    go_wp2_with fail
    refine ⟨⟨i + 1, by omega, by simp, HBF.out⟩, ?_⟩
    simp [intOf]
    omega
end Go.Proofs.Ythhdpfgepjmgkaa.Dj
namespace Go.Proofs.Ythhdpfgepjmgkaa.Dj
open Go.ChangeShapes Go.WideShapes Go.ChangeAt Go.RowKit Go.Joins Go.Deep Go.Proofs.Ythhdpfgepjmgkaa.Ge
set_option linter.unusedVariables false
set_option linter.unusedSimpArgs false

theorem list_ibu {ops : Array Oper} {rest : List Oper} {o : Oper} {ac : Act} {Q : Exit → Act → World → Prop} {W : World} (hgd : o.guard = none) (x : Operand) (ho : o.op = .buildSlice 30 1 #[(0, x)]) {m : Int} (hx : ac.eval x = .int .i64 m)
    (k : ∀ b W', Hid (W.heap.size = b) → Hid (Lst EI W' (some ⟨b, 0, none⟩) [m]) → Hid (Below W.heap.size W W') → wpList Try.prog ops Q rest (ac.put o.dst (.slice (some ⟨b, 0, none⟩) 1 1)) W') : wpList Try.prog ops Q (o :: rest) ac W := by
  refine wpList_plain hgd fun K hK => ?_
  unfold Oper.wp
  rw [ibu_run x ho hx]
  exact hK _ _ (k _ _ rfl ((own_made EI (W := W) [m] 1 rfl (by decide) rfl).1.lst.1) ((Below.refl _ W).alloc (Nat.le_refl _) _))
/-- what Paths hands out, as ways whose links may grow -/
theorem RhPost.pw {w w' : World} {f : Kw} {a : Option Addr} {m c : Nat} {rs : List Rc} (hm : rs.length = m) (hne : rs ≠ []) (hl : Lst ER w' a rs) (hw : Ws w rs w') (ha : ∀ b o s, a = some ⟨b, o, s⟩ → o = 0 ∧ s = none ∧ w.heap.size ≤ b ∧ b < w'.heap.size ∧ (∀ k, k < m * 3 → w'.frozen? ⟨b, k, none⟩ = false) ∧ m ≤ c ∧ (∀ q ∈ rs, (lv q).ownBlock ≠ some b) ∧ OwnL ER w.heap.size w' (.slice a m c) rs) : ∃ g, a = some ⟨g, 0, none⟩ ∧ Pw w.heap.size g m c rs [] w' := by
  have hlen : 0 < rs.length := List.length_pos_iff.2 hne
  obtain ⟨b, o, rfl, -, -⟩ := hl.cells 0 hlen
  obtain ⟨rfl, -, h1, h2, -, -, h3, h4⟩ := ha b o none rfl
  refine ⟨b, rfl, h4, hm, fun i q hq => ⟨hw.ck q (List.mem_of_getElem? hq), h3 q (List.mem_of_getElem? hq), fun x hx => absurd hx List.not_mem_nil⟩, fun i j p q hij hp hq x e1 e2 => ?_, fun x hx => absurd hx List.not_mem_nil⟩
  obtain ⟨hi, rfl⟩ := List.getElem?_eq_some_iff.1 hp
  obtain ⟨hj, rfl⟩ := List.getElem?_eq_some_iff.1 hq
  rcases Nat.lt_or_gt_of_ne hij with c | c
  · exact List.pairwise_iff_getElem.1 hw.pw i j hi hj c x e1 e2
  · exact List.pairwise_iff_getElem.1 hw.pw j i hj hi c x e2 e1
/-- a copy of one of the lists, as it grows -/
structure Gr (N g m c : Nat) (rs : List Rc) (F : List Nat) (q : Rc) (v : Value) (zs : List Int) (W : World) : Prop where
  pw : Pw N g m c rs F W
  ow : OwnL EI N W v (q.ls ++ zs)
  at_ : v.ownBlock = (lv q).ownBlock ∨ ∀ b, v.ownBlock = some b → b ≠ g ∧ (∀ p ∈ rs, (lv p).ownBlock ≠ some b) ∧ ¬ b ∈ F
/-- what is others' is as it was -/
structure Kp (F : List Nat) (W W' : World) : Prop where
  size : W.heap.size ≤ W'.heap.size
  blk : ∀ b ∈ F, W'.heap[b]? = W.heap[b]?
theorem Kp.refl (F : List Nat) (W : World) : Kp F W W := ⟨Nat.le_refl _, fun _ _ => rfl⟩
theorem Kp.trans {F : List Nat} {A B C : World} (h : Kp F A B) (k : Kp F B C) : Kp F A C := ⟨Nat.le_trans h.size k.size, fun b hb => (k.blk b hb).trans (h.blk b hb)⟩
theorem Kp.bel {F : List Nat} {A B C : World} (h : Kp F A B) (hf : ∀ b ∈ F, b < A.heap.size) (k : Below B.heap.size B C) : Kp F A C := ⟨Nat.le_trans h.size k.size, fun b hb => (k.block b (Nat.lt_of_lt_of_le (hf b hb) h.size)).trans (h.blk b hb)⟩
theorem Gr.bel {N g m c : Nat} {rs : List Rc} {F : List Nat} {q : Rc} {v : Value} {zs : List Int} {W W' : World} (h : Gr N g m c rs F q v zs W) (hb : Below W.heap.size W W') : Gr N g m c rs F q v zs W' := ⟨h.pw.bel hb, h.ow.bel hb, h.at_⟩
theorem Gr.step {N g m c i : Nat} {rs : List Rc} {F : List Nat} {q : Rc} {v v' : Value} {zs : List Int} {x : Int} {W W' : World} (h : Gr N g m c rs F q v zs W) (hq : rs[i]? = some q) (ho : OwnL EI N W' v' (q.ls ++ zs ++ [x])) (hg : W.grownBy W' v.ownBlock) (hn : v'.ownBlock = v.ownBlock ∨ v'.ownBlock = some W.heap.size) (hk : ∀ v0 xs0 zs0, q.ls ++ zs = xs0 ++ zs0 → OwnL EI N W v0 xs0 → v0.ownBlock = v.ownBlock → OwnL EI N W' v0 xs0) : Gr N g m c rs F q v' (zs ++ [x]) W' ∧ Kp F W W' := by
  have hqk := h.pw.ck i q hq
  have hgl := h.pw.ow.at0.2.2.1
  have hvg : v.ownBlock ≠ some g := fun e => by
    rcases h.at_ with k | k
    · rw [k] at e; exact hqk.2.1 e
    · exact (k g e).1 rfl
  have hvF : ∀ b ∈ F, v.ownBlock ≠ some b := fun b hb e => by
    rcases h.at_ with k | k
    · rw [k] at e; exact hqk.2.2 b hb e
    · exact (k b e).2.2 hb
  refine ⟨⟨⟨h.pw.ow.blk (fun b e => by cases e; exact hg.block g hgl (Ne.symm hvg)), h.pw.ln, fun j p hp => ⟨?_, (h.pw.ck j p hp).2⟩, h.pw.pw, fun b hb => ⟨Nat.lt_of_lt_of_le (h.pw.fo b hb).1 hg.size, (h.pw.fo b hb).2⟩⟩, by rw [← List.append_assoc]; exact ho, ?_⟩, hg.size, fun b hb => hg.block b (h.pw.fo b hb).1 (Ne.symm (hvF b hb))⟩
  · have hpk := (h.pw.ck j p hp).1
    by_cases hvp : (lv p).ownBlock = v.ownBlock
    · by_cases hj : j = i
      · subst hj
        rw [hq] at hp
        cases hp
        exact hk (lv q) q.ls zs rfl hpk hvp
      · cases hb : (lv p).ownBlock with
        | none =>
          rcases hpk.row.2 with ⟨h1, h2⟩ | ⟨b, c', cur, h1, -⟩
          · have e0 : p.ls = [] := List.length_eq_zero_iff.1 h2
            rw [h1, e0]
            exact OwnL.nil _ _ _
          · rw [h1] at hb; cases hb
        | some b =>
          exfalso
          rw [hb] at hvp
          rcases h.at_ with k | k
          · exact h.pw.pw j i p q hj hp hq b hb (by rw [← k]; exact hvp.symm)
          · exact (k b hvp.symm).2.1 p (List.mem_of_getElem? hp) hb
    · exact hpk.blk (fun b e => hg.block b (hpk.row.lt b e).2 (fun e2 => hvp (by rw [e, ← e2])))
  · rcases hn with k | k
    · rw [k]; exact h.at_
    · refine .inr (fun b e => ?_)
      rw [k] at e
      cases e
      refine ⟨by omega, fun p hp e2 => ?_, fun hf => ?_⟩
      · obtain ⟨j, hj⟩ := List.mem_iff_getElem?.1 hp
        have := ((h.pw.ck j p hj).1.row.lt _ e2).2
        omega
      · have := (h.pw.fo _ hf).1
        omega
def SpPost (N g m c : Nat) (rs : List Rc) (F : List Nat) (w : World) (e : Ending) (w' : World) : Prop := e = .returned (.bool true) ∧ Pw N g m c rs F w' ∧ Below N w w' ∧ Kp F w w'
set_option maxRecDepth 100000 in
set_option maxHeartbeats 32000000 in
theorem sapart_any (N g m c : Nat) (rs : List Rc) (F : List Nat) (wa : Option Addr) (wm wc : Nat) (ys : List Rc) (w : World) (hp : Pw N g m c rs F w) (hN : N ≤ w.heap.size) (hm : m < 1000000000) (hb : ∀ q ∈ rs, q.ls.length < 1000000000) (hw : ∀ W', Kp F w W' → Rd W' wa wm ys) (he : rs.map key = ys.map key) : Calls Try.prog 9 #[.slice (some ⟨g, 0, none⟩) m c, .slice wa wm wc] w (SpPost N g m c rs F w) := by
  have HX : Hid (Pw N g m c rs F w ∧ N ≤ w.heap.size ∧ m < 1000000000 ∧ (∀ q ∈ rs, q.ls.length < 1000000000) ∧ (∀ W', Kp F w W' → Rd W' wa wm ys) ∧ rs.map key = ys.map key) := ⟨hp, hN, hm, hb, hw, he⟩
  have hm0 : (m : Int) < 1000000000 := by omega
  have hm2 : (0 : Int) ≤ (m : Int) := by omega
  clear hp hN hm hb hw he
  go_enter Try.func9, Try.ntmps9
  go_wp2_with fail
  go_loopw [10, 5, 6, 7] (fun iv _ _ _ wr => ∃ (i : Nat), i ≤ m ∧ iv = .int .i64 (i : Int) ∧ Pw N g m c rs F wr ∧ Below N w wr ∧ Kp F w wr) (fun iv _ _ _ _ => m - (intOf iv).toNat)
  case atStart => exact ⟨0, Nat.zero_le _, rfl, HX.out.1, Below.refl _ _, Kp.refl _ _⟩
  case round =>
    obtain ⟨i, him, rfl, hpw, hbl, hkp⟩ := hrel
    obtain ⟨wz, hwz⟩ : ∃ y, wr = y := ⟨_, rfl⟩
    rw [hwz] at hpw hbl hkp ⊢
    have HI : Hid (Pw N g m c rs F wz ∧ Below N w wz ∧ i ≤ m ∧ Kp F w wz) := ⟨hpw, hbl, him, hkp⟩
    have hi0 : (i : Int) < 1000000000 := by omega
    have hi2 : (0 : Int) ≤ (i : Int) := by omega
    clear hpw hbl hkp hwz
    by_cases hlt : i < m
    case neg =>
      have hii : ¬ (i : Int) < (m : Int) := by omega
      go_wp2_with fail
      refine (lsame_any (some ⟨g, 0, none⟩) m c rs wa wm wc ys wz ⟨HI.out.1.ow.lst.1, HI.out.1.ln, HX.out.2.2.1, fun q hq => ?_⟩ (HX.out.2.2.2.2.1 wz HI.out.2.2.2) HX.out.2.2.2.2.2).mono ?_
      · obtain ⟨j, hj⟩ := List.mem_iff_getElem?.1 hq
        exact ⟨((HI.out.1.ck j q hj).1).lst.1, HX.out.2.2.2.1 q hq⟩
      rintro e0 w2 ⟨rfl, hb2⟩
      have HE : Hid (SpPost N g m c rs F w (.returned (.bool true)) w2) := ⟨rfl, HI.out.1.bel hb2, HI.out.2.1.trans (hb2.mono (Nat.le_trans HX.out.2.1 HI.out.2.1.size)), HI.out.2.2.2.bel (fun b hb => (HX.out.1.fo b hb).1) hb2⟩
      clear hb2
      go_wp2_with fail
      go_ret
      exact HE.out
    have hii : (i : Int) < (m : Int) := by omega
    obtain ⟨q, hq⟩ : ∃ y, rs[i]? = some y := ⟨rs[i]'(by have := HI.out.1.ln; omega), List.getElem?_eq_getElem _⟩
    have HQ : Hid (rs[i]? = some q ∧ q.ls.length < 1000000000) := ⟨hq, HX.out.2.2.2.1 q (List.mem_of_getElem? hq)⟩
    have HG0 : Hid (Gr N g m c rs F q (lv q) [] wz) := ⟨HI.out.1, by rw [List.append_nil]; exact (HI.out.1.ck i q hq).1, .inl rfl⟩
    have cq : wz.cell? ⟨g, i * 3 + 2, none⟩ = some (lv q) := by
      have h1 := HI.out.1.ow.at0.1 i (by have := HI.out.1.ln; omega) 2 (by decide)
      rw [(List.getElem?_eq_some_iff.1 hq).2] at h1
      exact h1
    obtain ⟨lq, hlq⟩ : ∃ y, lv q = y := ⟨_, rfl⟩
    have HLQ : Hid (lv q = lq) := hlq
    rw [hlq] at cq HG0
    clear hq hlq
    obtain ⟨z, hz⟩ : ∃ z, (-7 : Int) - (i : Int) = z := ⟨_, rfl⟩
    go_wp2_with fail
    clear cq
    go_loopw [7, 6] (fun jv kv wr => ∃ (j : Nat) (zs : List Int), j ≤ 20 ∧ jv = .int .i64 (j : Int) ∧ zs.length = j ∧ Gr N g m c rs F q kv zs wr ∧ Below N w wr ∧ Kp F w wr) (fun jv _ _ => 20 - (intOf jv).toNat)
    case atStart => exact ⟨0, [], by omega, rfl, rfl, HG0.out, HI.out.2.1, HI.out.2.2.2⟩
    case round =>
      obtain ⟨j, zs, hj, rfl, hzl, hgr, hbl, hkp⟩ := hrel
      obtain ⟨wy, hwy⟩ : ∃ y, wr = y := ⟨_, rfl⟩
      rw [hwy] at hgr hbl hkp ⊢
      obtain ⟨ka, kc, rfl⟩ := own_sl hgr.ow
      obtain ⟨kn, hkn⟩ : ∃ y, (q.ls ++ zs).length = y := ⟨_, rfl⟩
      rw [hkn] at hgr ⊢
      have HJ : Hid (Gr N g m c rs F q (.slice ka kn kc) zs wy ∧ Below N w wy ∧ zs.length = j ∧ j ≤ 20 ∧ (q.ls ++ zs).length = kn ∧ Kp F w wy) := ⟨hgr, hbl, hzl, hj, hkn, hkp⟩
      have hj0 : (j : Int) ≤ 20 := by omega
      have hj2 : (0 : Int) ≤ (j : Int) := by omega
      clear hgr hbl hkp hzl hwy hkn HG0
      by_cases hlt2 : j < 20
      case neg =>
        have hjj : ¬ (j : Int) < 20 := by omega
        clear hz
        go_wp2_with fail
        refine ⟨⟨i + 1, by omega, by simp, HJ.out.1.pw, HJ.out.2.1, HJ.out.2.2.2.2.2⟩, ?_⟩
        simp [intOf]
        omega
      have hjj : (j : Int) < 20 := by omega
      go_wp2_with (refine list_ibu rfl _ rfl (m := z) rfl ?_)
      intro b25 w5 hb5 hl5 hbl5
      have HL5 : Hid (Lst EI w5 (some ⟨b25, 0, none⟩) [z] ∧ Below wy.heap.size wy w5) := ⟨hl5.out, hbl5.out⟩
      have HG5 : Hid (Gr N g m c rs F q (.slice ka kn kc) zs w5) := HJ.out.1.bel hbl5.out
      have HNW : Hid (N ≤ w5.heap.size) := Nat.le_trans (Nat.le_trans HX.out.2.1 HJ.out.2.1.size) hbl5.out.size
      clear hb5 hl5 hbl5
      go_wp2_with (at_builtin; refine list_appK EI rfl _ _ 30 rfl rfl N (.slice ka kn kc) (q.ls ++ zs) z b25 w5 (by have h1 := HQ.out.2; have h2 := HJ.out; rw [List.length_append]; omega) rfl HG5.out.ow rfl HL5.out.1 HNW.out ?_)
      intro v6 w6 ho6 hg6 hn6 hk6
      have HG6 : Hid (Gr N g m c rs F q v6 (zs ++ [z]) w6 ∧ Below N w w6 ∧ Kp F w w6) := by
        have hst := HG5.out.step HQ.out.1 (by have h1 := ho6.out; first | exact h1 | (rw [List.append_assoc]; exact h1)) hg6.out hn6.out hk6.out
        refine ⟨hst.1, (HJ.out.2.1.trans (HL5.out.2.mono (Nat.le_trans HX.out.2.1 HJ.out.2.1.size))).trans ((Below.refl N w5).grown hg6.out HNW.out (fun b e => (HG5.out.ow.row.lt b e).1)), (HJ.out.2.2.2.2.2.bel (fun b hb => (HX.out.1.fo b hb).1) HL5.out.2).trans hst.2⟩
      obtain ⟨a6, c6, hv6⟩ := own_sl ho6.out
      obtain ⟨n6, hn6'⟩ : ∃ y, (q.ls ++ (zs ++ [z])).length = y := ⟨_, rfl⟩
      rw [hn6'] at hv6
      subst hv6
      clear ho6 hg6 hn6 hk6 HG5 hn6'
      go_wp2_with fail
      refine ⟨⟨j + 1, zs ++ [z], by omega, by simp, by rw [List.length_append]; have := HJ.out.2.2.1; simp; omega, HG6.out.1, HG6.out.2.1, HG6.out.2.2⟩, ?_⟩
      simp [intOf]
      omega
end Go.Proofs.Ythhdpfgepjmgkaa.Dj
