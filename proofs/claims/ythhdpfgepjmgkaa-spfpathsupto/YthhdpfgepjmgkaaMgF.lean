/- the document's Paths. -/
import Derived.Test.YthhdpfgepjmgkaaMgE
namespace Go.Proofs.Ythhdpfgepjmgkaa.Dj
open Go.ChangeShapes Go.WideShapes Go.ChangeAt Go.RowKit Go.Joins Go.Deep Go.Proofs.Ythhdpfgepjmgkaa.Ge
set_option linter.unusedVariables false
set_option linter.unusedSimpArgs false

theorem ibu_run {o : Oper} (x : Operand) (ho : o.op = .buildSlice 30 1 #[(0, x)]) {ρ : Operand → Value} {m : Int} {W : World} (hx : ρ x = .int .i64 m) : (execOp ρ o).run Try.prog W = .ok (.value (.slice (some ⟨W.heap.size, 0, none⟩) 1 1)) (W.alloc (Obj.cells #[.int .i64 m] 3)) := by
  unfold execOp
  rw [ho]
  simp [go_sem, hx]
theorem ibu_step {o : Oper} {a : Act} {W : World} {K : Act → World → Prop} {Q : Exit → Act → World → Prop} {c : Bool} {E : Prop} (x : Operand) (ho : o.op = .buildSlice 30 1 #[(0, x)]) {m : Int} (hx : a.eval x = .int .i64 m) (hc : c = true)
    (k : ∀ b W', Hid (W.heap.size = b) → Hid (Lst EI W' (some ⟨b, 0, none⟩) [m]) → Hid (Below W.heap.size W W') → K (a.put o.dst (.slice (some ⟨b, 0, none⟩) 1 1)) W') : if c = true then Oper.wp Try.prog o a W K Q else E :=
  step_run hc (ibu_run x ho hx) (k _ _ rfl ((own_made EI (W := W) [m] 1 rfl (by decide) rfl).1.lst.1) ((Below.refl _ W).alloc (Nat.le_refl _) _))
def nd (q : Rc) : Int × Int := (q.n, q.d)
/-- in the midst of a standing edge of the root's -/
structure RI (al ss : List Ed) (root : Int) (rs0 : List Rc) (N g m c b8 bb : Nat) (Wn : World) (i k : Nat) (rs : List Rc) (W : World) : Prop where
  pw : Pw N g m c rs [bb, b8] W
  e8 : W.heap[b8]? = Wn.heap[b8]?
  eb : W.heap[bb]? = Wn.heap[bb]?
  nd : rs.map nd = rs0.map nd
  lw : ∀ (p : Nat) (q : Rc), rs[p]? = some q → Lw al ss root (if p < k then i + 1 else i) q.n q.d q.ls
theorem RI.bel {al ss : List Ed} {root : Int} {rs0 rs : List Rc} {N g m c b8 bb i k : Nat} {Wn W W' : World} (h : RI al ss root rs0 N g m c b8 bb Wn i k rs W) (hb : Below W.heap.size W W') : RI al ss root rs0 N g m c b8 bb Wn i k rs W' :=
  ⟨h.pw.bel hb, (hb.block b8 (h.pw.fo b8 (by simp)).1).trans h.e8, (hb.block bb (h.pw.fo bb (by simp)).1).trans h.eb, h.nd, h.lw⟩
theorem RI.skip {al ss : List Ed} {root : Int} {rs0 rs : List Rc} {N g m c b8 bb i k : Nat} {Wn W : World} (h : RI al ss root rs0 N g m c b8 bb Wn i k rs W) {e : Ed} {q : Rc} (he : ss[i]? = some e) (hq : rs[k]? = some q) (hn : ¬ (e.f = root ∧ q.n ≠ root ∧ Pc al e q.n q.d)) : RI al ss root rs0 N g m c b8 bb Wn i (k + 1) rs W :=
  ⟨h.pw, h.e8, h.eb, h.nd, fun p r hr => by
    have h1 := h.lw p r hr
    by_cases c : p = k
    · subst c
      rw [hq] at hr
      cases hr
      rw [if_neg (by omega)] at h1
      rw [if_pos (by omega)]
      exact h1.skip he hn
    · by_cases d : p < k
      · rw [if_pos d] at h1; rw [if_pos (by omega)]; exact h1
      · rw [if_neg d] at h1; rw [if_neg (by omega)]; exact h1⟩
theorem RI.add {al ss : List Ed} {root : Int} {rs0 rs : List Rc} {N g m c b8 bb i k : Nat} {Wn W W1 W2 : World} (h : RI al ss root rs0 N g m c b8 bb Wn i k rs W) {e : Ed} {q : Rc} (hso : ss.Pairwise eLt) (he : ss[i]? = some e) (hq : rs[k]? = some q) (h1 : e.f = root) (h2 : q.n ≠ root) (h3 : Pc al e q.n q.d) {a' : Option Addr} {c' : Nat} (hb : Below W.heap.size W W1) (ho : OwnL EI N W2 (.slice a' (q.ls ++ [e.l]).length c') (q.ls ++ [e.l])) (hg : W1.grownBy W2 (lv q).ownBlock) (hn : (Value.slice a' (q.ls ++ [e.l]).length c').ownBlock = (lv q).ownBlock ∨ (Value.slice a' (q.ls ++ [e.l]).length c').ownBlock = some W1.heap.size) : RI al ss root rs0 N g m c b8 bb Wn i (k + 1) (rs.set k ⟨q.n, q.d, q.ls ++ [e.l], a', c'⟩) (W2.setCell ⟨g, k * 3 + 2, none⟩ (.slice a' (q.ls ++ [e.l]).length c')) ∧ Below N W (W2.setCell ⟨g, k * 3 + 2, none⟩ (.slice a' (q.ls ++ [e.l]).length c')) := by
  obtain ⟨k1, k2, k3⟩ := h.pw.upd hq hb ho hg hn
  have hkl := (List.getElem?_eq_some_iff.1 hq).1
  refine ⟨⟨k1, (k2 b8 (by simp)).trans h.e8, (k2 bb (by simp)).trans h.eb, ?_, fun p r hr => ?_⟩, k3⟩
  · rw [List.map_set, ← h.nd]
    refine List.ext_getElem? (fun j => ?_)
    rw [List.getElem?_set]
    by_cases c : k = j
    · subst c
      rw [if_pos rfl, if_pos (by rw [List.length_map]; exact hkl), List.getElem?_map, hq]
      rfl
    · rw [if_neg c]
  · by_cases c : p = k
    · subst c
      rw [List.getElem?_set_self hkl] at hr
      cases hr
      rw [if_pos (by omega)]
      have h4 := h.lw p q hq
      rw [if_neg (by omega)] at h4
      exact h4.add hso he h1 h2 h3
    · rw [List.getElem?_set_ne (Ne.symm c)] at hr
      have h4 := h.lw p r hr
      by_cases d : p < k
      · rw [if_pos d] at h4; rw [if_pos (by omega)]; exact h4
      · rw [if_neg d] at h4; rw [if_neg (by omega)]; exact h4
/-- what the document's Paths tells -/
def RpPost (w : World) (es : List Ed) (root : Int) (e : Ending) (w' : World) : Prop := ∃ (a : Option Addr) (m c : Nat) (rs : List Rc) (al : List Ed), e = .returned (.slice a m c) ∧ rs.length = m ∧ Lst ER w' a rs ∧ (a = none → m = 0 ∧ c = 0) ∧ (∀ q ∈ rs, Lst EI w' q.a q.ls ∧ q.ls.length ≤ es.length) ∧ Aa es al ∧ rs.Pairwise (fun p q => p.n < q.n) ∧ (∀ q ∈ rs, Told al root q.n q.d q.ls) ∧ (∀ v p, isP al root p v → ∃ q ∈ rs, q.n = v) ∧ m ≤ es.length + 1 ∧ Below w.heap.size w w'
theorem nd_at {rs rs0 : List Rc} (h : rs.map nd = rs0.map nd) {p : Nat} {q : Rc} (hq : rs[p]? = some q) : ∃ q0, rs0[p]? = some q0 ∧ q0.n = q.n ∧ q0.d = q.d := by
  have h1 : (rs.map nd)[p]? = some (nd q) := by rw [List.getElem?_map, hq]; rfl
  rw [h, List.getElem?_map] at h1
  cases h2 : rs0[p]? with
  | none => rw [h2] at h1; cases h1
  | some q0 =>
    rw [h2] at h1
    have h3 : nd q0 = nd q := Option.some.inj h1
    exact ⟨q0, rfl, congrArg Prod.fst h3, congrArg Prod.snd h3⟩
theorem nd_pw {rs rs0 : List Rc} (h : rs.map nd = rs0.map nd) (hp : rs0.Pairwise (fun p q => p.n < q.n)) : rs.Pairwise (fun p q => p.n < q.n) := by
  have h1 : (rs0.map nd).Pairwise (fun p q => p.1 < q.1) := by rw [List.pairwise_map]; exact hp
  rw [← h, List.pairwise_map] at h1
  exact h1
theorem Pw.start {N g m c : Nat} {rs : List Rc} {W : World} {al : List Ed} {root : Int} (h : OwnL ER N W (.slice (some ⟨g, 0, none⟩) m c) rs) (hm : rs.length = m) (hb : Bf al root rs) : Pw N g m c rs [] W := by
  have hz : ∀ (i : Nat) (q : Rc), rs[i]? = some q → lv q = .slice none 0 0 ∧ q.ls = [] := fun i q hq => by
    obtain ⟨h1, h2, h3⟩ := hb.z q (List.mem_of_getElem? hq)
    exact ⟨by unfold lv; rw [h1, h2, h3]; rfl, h1⟩
  refine ⟨h, hm, fun i q hq => ?_, fun i j p q _ hp _ x e => ?_, fun b hb => absurd hb List.not_mem_nil⟩
  · obtain ⟨h1, h2⟩ := hz i q hq
    rw [h1, h2]
    exact ⟨OwnL.nil _ _ _, fun e => (by cases e), fun b hb => absurd hb List.not_mem_nil⟩
  · rw [(hz i p hp).1] at e
    cases e
set_option maxRecDepth 100000 in
set_option maxHeartbeats 64000000 in
theorem rpaths_any (la : Option Addr) (n lc : Nat) (es : List Ed) (root : Int) (w : World) (hn : es.length = n) (hb : n < 99999999) (h : Lst EE w la es) : Calls Try.prog 6 #[.slice la n lc, .int .i64 root] w (RpPost w es root) := by
  have HX : Hid (Lst EE w la es ∧ es.length = n ∧ n < 99999999) := ⟨h, hn, hb⟩
  clear h hn hb
  go_enter Try.func6, Try.ntmps6
  go_wp2_with fail
  refine (standing_any la n lc es w HX.out.2.1 (by have := HX.out.2.2; omega) HX.out.1).mono ?_
  rintro e0 w1 ⟨v, al, ss, rfl, how, haa, hsw, hln, hb1⟩
  obtain ⟨sa, sc, rfl⟩ := own_sl how
  obtain ⟨k0, hk0⟩ : ∃ y, ss.length = y := ⟨_, rfl⟩
  rw [hk0] at hln ⊢
  have HS : Hid (Lst EE w1 sa ss ∧ ss.length = k0 ∧ k0 ≤ n ∧ Below w.heap.size w w1) := ⟨how.lst.1, hk0, by have := HX.out.2.1; omega, hb1⟩
  have HA : Hid (Aa es al ∧ Sw al ss ∧ al.length ≤ n) := ⟨haa, hsw, by have := haa.len; have := HX.out.2.1; omega⟩
  have hk1 : (k0 : Int) < 99999999 := by have := HS.out.2.2.1; have := HX.out.2.2; omega
  clear how haa hsw hln hb1 hk0
  go_wp2_with fail
  refine (dists_any sa k0 sc al ss root n w1 HS.out.2.1 (by have := HX.out.2.2; omega) HS.out.2.2.1 HA.out.2.2 HA.out.1.ok HA.out.2.1 HS.out.1).mono ?_
  rintro e0 w2 ⟨v, rs0, rfl, how, hds, hb2⟩
  obtain ⟨oa, c, rfl⟩ := own_sl how
  obtain ⟨m, hm⟩ : ∃ y, rs0.length = y := ⟨_, rfl⟩
  rw [hm] at how ⊢
  obtain ⟨g, rfl⟩ := own_some how (fun c => by obtain ⟨q, hq, -⟩ := hds.bf.rt; rw [c] at hq; cases hq)
  have HP2 : Hid (Pw w1.heap.size g m c rs0 [] w2) := Pw.start how hm hds.bf
  have HD : Hid (Ds al root rs0 ∧ rs0.length = m ∧ m ≤ n + 1) := ⟨hds, hm, by have := hds.bf.len; have := HA.out.2.2; omega⟩
  have HB2 : Hid (Below w1.heap.size w1 w2) := hb2
  have hm0 : (m : Int) < 1000000000 := by have := HD.out.2.2; have := HX.out.2.2; omega
  clear how hds hb2 hm
  go_wp2_with fail
  go_loopw [19, 8, 9, 10, 11] (fun iv _ _ _ _ wr => ∃ (i : Nat) (rs : List Rc), i ≤ k0 ∧ iv = .int .i64 (i : Int) ∧ Below w1.heap.size w1 wr ∧ Pw w1.heap.size g m c rs [] wr ∧ rs.map nd = rs0.map nd ∧ ∀ (p : Nat) (q : Rc), rs[p]? = some q → Lw al ss root i q.n q.d q.ls) (fun iv _ _ _ _ _ => k0 - (intOf iv).toNat)
  case atStart => exact ⟨0, rs0, Nat.zero_le _, rfl, HB2.out, HP2.out, rfl, fun p q hq => by rw [(HD.out.1.bf.z q (List.mem_of_getElem? hq)).1]; exact Lw.nil _ _ _ _ _⟩
  case round =>
    obtain ⟨i, rs, hin, rfl, hbl, hpw, hnd, hlw⟩ := hrel
    obtain ⟨wz, hwz⟩ : ∃ y, wr = y := ⟨_, rfl⟩
    rw [hwz] at hbl hpw ⊢
    have HI : Hid (Below w1.heap.size w1 wz ∧ Pw w1.heap.size g m c rs [] wz ∧ rs.map nd = rs0.map nd ∧ ∀ (p : Nat) (q : Rc), rs[p]? = some q → Lw al ss root i q.n q.d q.ls) := ⟨hbl, hpw, hnd, hlw⟩
    have hi0 : (i : Int) < 99999999 := by omega
    have hi2 : (0 : Int) ≤ (i : Int) := by omega
    clear hbl hpw hnd hlw hwz HP2 HB2
    by_cases hlt : i < k0
    case neg =>
      have hii : ¬ (i : Int) < (k0 : Int) := by omega
      have HE : Hid (RpPost w es root (.returned (.slice (some ⟨g, 0, none⟩) m c)) wz) := by
        have h1 := HI.out.2.1
        have h2 := nd_pw HI.out.2.2.1 HD.out.1.bf.so
        refine ⟨_, m, c, rs, al, rfl, h1.ln, h1.ow.lst.1, fun e => (by cases e), fun q hq => ?_, HA.out.1, h2, fun q hq => ?_, fun v p hp => ?_, by have := HD.out.2.2; have := HX.out.2.1; omega, HS.out.2.2.2.trans (HI.out.1.mono HS.out.2.2.2.size)⟩
        · obtain ⟨p, hp⟩ := List.mem_iff_getElem?.1 hq
          exact ⟨((h1.ck p q hp).1).lst.1, by have := (HI.out.2.2.2 p q hp).len; have := HS.out; have := HX.out.2.1; omega⟩
        · obtain ⟨p, hp⟩ := List.mem_iff_getElem?.1 hq
          obtain ⟨q0, k1, k2, k3⟩ := nd_at HI.out.2.2.1 hp
          have h3 := HD.out.1.sh q0 (List.mem_of_getElem? k1)
          rw [k2, k3] at h3
          exact (HI.out.2.2.2 p q hp).told (by have := HS.out.2.1; omega) HA.out.2.1 h3
        · obtain ⟨q0, k1, k2⟩ := HD.out.1.re v p hp
          obtain ⟨j, hj⟩ := List.mem_iff_getElem?.1 k1
          obtain ⟨q, k3, k4, -⟩ := nd_at HI.out.2.2.1.symm hj
          exact ⟨q, List.mem_of_getElem? k3, by omega⟩
      go_wp2_with fail
      go_ret
      exact HE.out
    have hii : (i : Int) < (k0 : Int) := by omega
    obtain ⟨e, he⟩ : ∃ y, ss[i]? = some y := ⟨ss[i]'(by have := HS.out.2.1; omega), List.getElem?_eq_getElem _⟩
    have HEi : Hid (ss[i]? = some e) := he
    have HST : Hid (St al e ∧ 1 ≤ e.c ∧ e.c ≤ 65535) := by have h1 := (HA.out.2.1.mem e).1 (List.mem_of_getElem? he); exact ⟨h1, HA.out.1.ok.c1 e h1.1⟩
    obtain ⟨lb, lo, rfl, -, -⟩ := HS.out.1.cells i (by have := HS.out.2.1; omega)
    have HCE : Hid (∀ q, q < 4 → wz.cell? ⟨lb, lo + i * 4 + q, none⟩ = (edL e)[q]?) := ed_cell HS.out.1 HI.out.1 HEi.out
    clear he
    go_wp2_with (first | (refine list_sat EdK rfl _ rfl (b := lb) (k := lo + i * 4) (cs := edL e) rfl HCE.out rfl ?_) | (refine list_newl EdK _ z_ed rfl rfl ?_))
    intro b8 w5 hb5 hs5 hbl5
    have HB5 : Hid (wz.heap.size ≤ b8 ∧ Below wz.heap.size wz w5) := ⟨by rw [hb5.out]; exact Nat.le_refl _, hbl5.out⟩
    have HS5 : Hid (SB EdK b8 (edL ⟨0, 0, 0, 0⟩) w5) := hs5.out
    clear hb5 hs5 hbl5 HCE
    go_wp2_with (refine list_sstore EdK rfl _ _ rfl (b := b8) (cs := edL ⟨0, 0, 0, 0⟩) (cs' := edL e) rfl rfl HS5.out rfl rfl rfl ?_)
    intro w6 hs6 hk6
    have HS6 : Hid (SB EdK b8 (edL e) w6) := hs6.out
    have HB6 : Hid (Below wz.heap.size wz w6 ∧ wz.heap.size ≤ b8) := ⟨HB5.out.2.trans (hk6.out.below HB5.out.1), HB5.out.1⟩
    have c80 : w6.cell? ⟨b8, 0, none⟩ = some (.int .i64 e.f) := hs6.out.cell 0
    have c81 : w6.cell? ⟨b8, 1, none⟩ = some (.int .i64 e.t) := hs6.out.cell 1
    clear hs6 hk6 HS5 HB5
    by_cases hef : e.f = root
    case neg =>
      have hbe : (e.f != root) = true := by simp [hef]
      have HG : Hid (∃ (i2 : Nat) (rs2 : List Rc), i2 ≤ k0 ∧ Value.int .i64 (↑i + 1) = .int .i64 (i2 : Int) ∧ Below w1.heap.size w1 w6 ∧ Pw w1.heap.size g m c rs2 [] w6 ∧ rs2.map nd = rs0.map nd ∧ ∀ (p : Nat) (q : Rc), rs2[p]? = some q → Lw al ss root i2 q.n q.d q.ls) := ⟨i + 1, rs, by omega, by simp, HI.out.1.trans (HB6.out.1.mono HI.out.1.size), HI.out.2.1.bel HB6.out.1, HI.out.2.2.1, fun p q hq => (HI.out.2.2.2 p q hq).skip HEi.out (fun c => hef c.1)⟩
      clear hef
      go_wp2_with fail
      refine ⟨HG.out, ?_⟩
      simp [intOf]
      omega
    have HEF : Hid (e.f = root) := hef
    have hbe : (e.f != root) = false := by simp [hef]
    have HW6 : Hid (Below w1.heap.size w1 w6) := HI.out.1.trans (HB6.out.1.mono HI.out.1.size)
    clear hef
    go_wp2_with fail
    refine (dists_any (some ⟨lb, lo, none⟩) k0 sc al ss e.t n w6 HS.out.2.1 (by have := HX.out.2.2; omega) HS.out.2.2.1 HA.out.2.2 HA.out.1.ok HA.out.2.1 (HS.out.1.bel HW6.out)).mono ?_
    rintro e0 w9 ⟨v, bs, rfl, how, hds, hb9⟩
    obtain ⟨ba, cb, rfl⟩ := own_sl how
    obtain ⟨mb, hmb⟩ : ∃ y, bs.length = y := ⟨_, rfl⟩
    rw [hmb] at how ⊢
    obtain ⟨bb, rfl⟩ := own_some how (fun c => by obtain ⟨q, hq, -⟩ := hds.bf.rt; rw [c] at hq; cases hq)
    have HBS : Hid (OwnL ER w6.heap.size w9 (.slice (some ⟨bb, 0, none⟩) mb cb) bs ∧ Ds al e.t bs ∧ bs.length = mb ∧ mb ≤ n + 1) := ⟨how, hds, hmb, by have := hds.bf.len; have := HA.out.2.2; omega⟩
    have HN9 : Hid (Below wz.heap.size wz w9) := HB6.out.1.trans (hb9.mono HB6.out.1.size)
    have HS9 : Hid (SB EdK b8 (edL e) w9) := HS6.out.blk (hb9.block b8 HS6.out.lt)
    have hmb0 : (mb : Int) < 1000000000 := by have := HBS.out.2.2.2; have := HX.out.2.2; omega
    have HRI : Hid (RI al ss root rs0 w1.heap.size g m c b8 bb w9 i 0 rs w9) := by
      have h0 := (HI.out.2.1.bel HB6.out.1).foreign (b := bb) hb9 HBS.out.1.at0.2.2.2 HBS.out.1.at0.2.2.1
      have h1 := (HI.out.2.1).foreign (b := b8) HN9.out HB6.out.2 HS9.out.lt
      refine ⟨⟨h0.ow, h0.ln, fun j q hq => ⟨(h0.ck j q hq).1, (h0.ck j q hq).2.1, fun x hx => ?_⟩, h0.pw, fun x hx => ?_⟩, rfl, rfl, HI.out.2.2.1, fun p q hq => by rw [if_neg (by omega)]; exact HI.out.2.2.2 p q hq⟩
      · rcases List.mem_cons.1 hx with c | c
        · rw [c]; exact (h0.ck j q hq).2.2 bb (by simp)
        · rw [List.mem_singleton] at c; rw [c]; exact (h1.ck j q hq).2.2 b8 (by simp)
      · rcases List.mem_cons.1 hx with c | c
        · rw [c]; exact h0.fo bb (by simp)
        · rw [List.mem_singleton] at c; rw [c]; exact h1.fo b8 (by simp)
    have HW9 : Hid (Below w1.heap.size w1 w9) := HI.out.1.trans (HN9.out.mono HI.out.1.size)
    clear how hds hb9 hmb c80 c81 hbe HS6
    go_wp2_with fail
    go_loopw [33, 10, 11] (fun kv _ _ wr => ∃ (k : Nat) (rs2 : List Rc), k ≤ m ∧ kv = .int .i64 (k : Int) ∧ Below w1.heap.size w1 wr ∧ RI al ss root rs0 w1.heap.size g m c b8 bb w9 i k rs2 wr) (fun kv _ _ _ => m - (intOf kv).toNat)
    case atStart => exact ⟨0, rs, Nat.zero_le _, rfl, HW9.out, HRI.out⟩
    case round =>
      obtain ⟨k, rs2, hkm, rfl, hbl, hri⟩ := hrel
      obtain ⟨wy, hwy⟩ : ∃ y, wr = y := ⟨_, rfl⟩
      rw [hwy] at hbl hri ⊢
      have HJ : Hid (Below w1.heap.size w1 wy ∧ RI al ss root rs0 w1.heap.size g m c b8 bb w9 i k rs2 wy) := ⟨hbl, hri⟩
      have hkk0 : (k : Int) < 1000000000 := by omega
      have hkk2 : (0 : Int) ≤ (k : Int) := by omega
      clear hbl hri hwy HRI HW9 HN9
      by_cases hlt2 : k < m
      case neg =>
        have hjj : ¬ (k : Int) < (m : Int) := by omega
        have HG : Hid (∃ (i2 : Nat) (rs2 : List Rc), i2 ≤ k0 ∧ Value.int .i64 (↑i + 1) = .int .i64 (i2 : Int) ∧ Below w1.heap.size w1 wy ∧ Pw w1.heap.size g m c rs2 [] wy ∧ rs2.map nd = rs0.map nd ∧ ∀ (p : Nat) (q : Rc), rs2[p]? = some q → Lw al ss root i2 q.n q.d q.ls) := ⟨i + 1, rs2, by omega, by simp, HJ.out.1, HJ.out.2.pw.less (fun b hb => absurd hb List.not_mem_nil), HJ.out.2.nd, fun p q hq => by
          have h1 := HJ.out.2.lw p q hq
          rw [if_pos (by have h2 := (List.getElem?_eq_some_iff.1 hq).1; have := HJ.out.2.pw.ln; omega)] at h1
          exact h1⟩
        go_wp2_with fail
        refine ⟨HG.out, ?_⟩
        simp [intOf]
        omega
      have hjj : (k : Int) < (m : Int) := by omega
      obtain ⟨q, hq⟩ : ∃ y, rs2[k]? = some y := ⟨rs2[k]'(by have := HJ.out.2.pw.ln; omega), List.getElem?_eq_getElem _⟩
      have HQ : Hid (rs2[k]? = some q) := hq
      have HQN : Hid (Sh al root q.n q.d ∧ 0 ≤ q.d ∧ q.d ≤ 65535 * (m : Int)) := by
        obtain ⟨q0, k1, k2, k3⟩ := nd_at HJ.out.2.nd hq
        have h3 := HD.out.1.sh q0 (List.mem_of_getElem? k1)
        have h4 := HD.out.1.bf.nn HA.out.1.ok (List.mem_of_getElem? k1)
        have h5 := HD.out.1.bf.bd q0 (List.mem_of_getElem? k1)
        rw [HD.out.2.1] at h5
        rw [k2, k3] at h3
        rw [k3] at h4 h5
        exact ⟨h3, h4, h5⟩
      have HCQ : Hid (∀ W, Below wy.heap.size wy W → ∀ j, j < 3 → W.cell? ⟨g, k * 3 + j, none⟩ = (rcL q)[j]?) := fun W hW j hj => by
        have h1 := ((HJ.out.2.pw.bel hW).ow.at0.1 k (by have := HJ.out.2.pw.ln; omega) j hj)
        rw [(List.getElem?_eq_some_iff.1 hq).2] at h1
        exact h1
      have HS8 : Hid (SB EdK b8 (edL e) wy) := HS9.out.blk HJ.out.2.e8
      have HOB : Hid (OwnL ER w6.heap.size wy (.slice (some ⟨bb, 0, none⟩) mb cb) bs) := HBS.out.1.blk (fun x hx => by cases hx; exact HJ.out.2.eb)
      have cq0 : wy.cell? ⟨g, k * 3, none⟩ = some (.int .i64 q.n) := HCQ.out wy (Below.refl _ _) 0 (by decide)
      clear hq
      go_wp2_with fail
      refine (spffind_any (some ⟨bb, 0, none⟩) mb cb bs q.n wy HBS.out.2.2.1 (by have := HBS.out.2.2.2; have := HX.out.2.2; omega) HOB.out.lst.1).mono ?_
      rintro e0 wf ⟨z, rfl, rfl, hz⟩
      have HZ : Hid ((z = -1 ∧ ∀ x ∈ bs, x.n ≠ q.n) ∨ ∃ (j : Nat) (y : Rc), z = (j : Int) ∧ bs[j]? = some y ∧ y.n = q.n) := hz
      clear hz cq0
      obtain ⟨wd, hwd⟩ : ∃ y, wy.drew = y := ⟨_, rfl⟩
      have HWD : Hid (wy.drew = wd) := hwd
      have HBD : Hid (Below wy.heap.size wy wd) := by rw [← hwd]; exact drew_bel wy
      clear hwd
      have HRD : Hid (RI al ss root rs0 w1.heap.size g m c b8 bb w9 i k rs2 wd ∧ Below w1.heap.size w1 wd) := ⟨HJ.out.2.bel HBD.out, HJ.out.1.trans (HBD.out.mono HJ.out.1.size)⟩
      have HM : Hid (wd.cell? ⟨g, k * 3, none⟩ = some (.int .i64 q.n) ∧ wd.cell? ⟨g, k * 3 + 1, none⟩ = some (.int .i64 q.d) ∧ wd.cell? ⟨g, k * 3 + 2, none⟩ = some (lv q) ∧ wd.cell? ⟨b8, 2, none⟩ = some (.int .i64 e.c) ∧ wd.cell? ⟨b8, 3, none⟩ = some (.int .i64 e.l)) := ⟨HCQ.out wd HBD.out 0 (by decide), HCQ.out wd HBD.out 1 (by decide), HCQ.out wd HBD.out 2 (by decide), (HS8.out.blk (HBD.out.block b8 HS8.out.lt)).cell 2, (HS8.out.blk (HBD.out.block b8 HS8.out.lt)).cell 3⟩
      have HNO : Hid (¬ (e.f = root ∧ q.n ≠ root ∧ Pc al e q.n q.d) → ∃ (k2 : Nat) (rs3 : List Rc), k2 ≤ m ∧ Value.int .i64 (↑k + 1) = .int .i64 (k2 : Int) ∧ Below w1.heap.size w1 wd ∧ RI al ss root rs0 w1.heap.size g m c b8 bb w9 i k2 rs3 wd) := fun hno => ⟨k + 1, rs2, by omega, by simp, HRD.out.2, HRD.out.1.skip HEi.out HQ.out hno⟩
      rcases HZ.out with ⟨rfl, hno⟩ | ⟨j, y, rfl, hyj, hyn⟩
      case inl =>
        have HN : Hid (¬ (e.f = root ∧ q.n ≠ root ∧ Pc al e q.n q.d)) := fun ⟨_, _, p, hp, _⟩ => by
          obtain ⟨x, hx, hxn⟩ := HBS.out.2.1.re q.n p hp
          exact hno x hx hxn
        clear hno
        go_upto_region 12 with fail
        refine wp_region_held_drew (S := fun W => W = wd) (by kernel_rfl) HWD.out (fun hHeld => ?_)
        rw [HWD.out] at hHeld ⊢
        refine wpAnyH_take (i := 0) (v := .int .i64 (-1)) rfl (by kernel_rfl) (by kernel_rfl) (by kernel_rfl) (fun _ _ _ h => h) (Or.inl ⟨by rfl, ?_⟩) (by assumption) ?_
        case refine_1 => intro W hSw; go_simp; try rfl
        try simp only [Act.put, List.getElem_toArray, List.getElem_cons_zero, List.getElem_cons_succ, List.setIfInBounds_toArray, List.set_cons_zero, List.set_cons_succ]
        refine wpAnyH_take (i := 1) (v := .bool false) rfl (by kernel_rfl) (by kernel_rfl) (by kernel_rfl) (fun _ _ _ h => h) (Or.inl ⟨by rfl, ?_⟩) (by assumption) ?_
        case refine_1 => intro W hSw; go_simp; try rfl
        try simp only [Act.put, List.getElem_toArray, List.getElem_cons_zero, List.getElem_cons_succ, List.setIfInBounds_toArray, List.set_cons_zero, List.set_cons_succ]
        refine wpAnyH_take (i := 2) (v := .bool false) rfl (by kernel_rfl) (by kernel_rfl) (by kernel_rfl) (fun _ _ _ h => h) (Or.inl ⟨by rfl, ?_⟩) (by assumption) ?_
        case refine_1 => intro W hSw; go_simp; try rfl
        try simp only [Act.put, List.getElem_toArray, List.getElem_cons_zero, List.getElem_cons_succ, List.setIfInBounds_toArray, List.set_cons_zero, List.set_cons_succ]
        refine wpAnyH_take (i := 3) (v := undef) rfl (by kernel_rfl) (by kernel_rfl) (by kernel_rfl) (fun _ _ _ h => h) (Or.inr ⟨by rfl, rfl⟩) (by assumption) ?_
        try simp only [Act.put, List.getElem_toArray, List.getElem_cons_zero, List.getElem_cons_succ, List.setIfInBounds_toArray, List.set_cons_zero, List.set_cons_succ]
        refine wpAnyH_take (i := 4) (v := undef) rfl (by kernel_rfl) (by kernel_rfl) (by kernel_rfl) (fun _ _ _ h => h) (Or.inr ⟨by rfl, rfl⟩) (by assumption) ?_
        try simp only [Act.put, List.getElem_toArray, List.getElem_cons_zero, List.getElem_cons_succ, List.setIfInBounds_toArray, List.set_cons_zero, List.set_cons_succ]
        refine wpAnyH_take (i := 5) (v := undef) rfl (by kernel_rfl) (by kernel_rfl) (by kernel_rfl) (fun _ _ _ h => h) (Or.inr ⟨by rfl, rfl⟩) (by assumption) ?_
        try simp only [Act.put, List.getElem_toArray, List.getElem_cons_zero, List.getElem_cons_succ, List.setIfInBounds_toArray, List.set_cons_zero, List.set_cons_succ]
        refine wpAnyH_take (i := 6) (v := undef) rfl (by kernel_rfl) (by kernel_rfl) (by kernel_rfl) (fun _ _ _ h => h) (Or.inr ⟨by rfl, rfl⟩) (by assumption) ?_
        try simp only [Act.put, List.getElem_toArray, List.getElem_cons_zero, List.getElem_cons_succ, List.setIfInBounds_toArray, List.set_cons_zero, List.set_cons_succ]
        refine wpAnyH_take (i := 7) (v := undef) rfl (by kernel_rfl) (by kernel_rfl) (by kernel_rfl) (fun _ _ _ h => h) (Or.inr ⟨by rfl, rfl⟩) (by assumption) ?_
        try simp only [Act.put, List.getElem_toArray, List.getElem_cons_zero, List.getElem_cons_succ, List.setIfInBounds_toArray, List.set_cons_zero, List.set_cons_succ]
        refine wpAnyH_take (i := 8) (v := undef) rfl (by kernel_rfl) (by kernel_rfl) (by kernel_rfl) (fun _ _ _ h => h) (Or.inr ⟨by rfl, rfl⟩) (by assumption) ?_
        try simp only [Act.put, List.getElem_toArray, List.getElem_cons_zero, List.getElem_cons_succ, List.setIfInBounds_toArray, List.set_cons_zero, List.set_cons_succ]
        refine wpAnyH_take (i := 9) (v := undef) rfl (by kernel_rfl) (by kernel_rfl) (by kernel_rfl) (fun _ _ _ h => h) (Or.inr ⟨by rfl, rfl⟩) (by assumption) ?_
        try simp only [Act.put, List.getElem_toArray, List.getElem_cons_zero, List.getElem_cons_succ, List.setIfInBounds_toArray, List.set_cons_zero, List.set_cons_succ]
        refine wpAnyH_take (i := 10) (v := .bool false) rfl (by kernel_rfl) (by kernel_rfl) (by kernel_rfl) (fun _ _ _ h => h) (Or.inl ⟨by rfl, ?_⟩) (by assumption) ?_
        case refine_1 => intro W hSw; go_simp; try rfl
        try simp only [Act.put, List.getElem_toArray, List.getElem_cons_zero, List.getElem_cons_succ, List.setIfInBounds_toArray, List.set_cons_zero, List.set_cons_succ]
        refine wpAnyH_take (i := 11) (v := .bool false) rfl (by kernel_rfl) (by kernel_rfl) (by kernel_rfl) (fun _ _ _ h => h) (Or.inl ⟨by rfl, ?_⟩) (by assumption) ?_
        case refine_1 => intro W hSw; go_simp; try rfl
        try simp only [Act.put, List.getElem_toArray, List.getElem_cons_zero, List.getElem_cons_succ, List.setIfInBounds_toArray, List.set_cons_zero, List.set_cons_succ]
        refine wpAnyH_take (i := 12) (v := undef) rfl (by kernel_rfl) (by kernel_rfl) (by kernel_rfl) (fun _ _ _ h => h) (Or.inr ⟨by rfl, rfl⟩) (by assumption) ?_
        try simp only [Act.put, List.getElem_toArray, List.getElem_cons_zero, List.getElem_cons_succ, List.setIfInBounds_toArray, List.set_cons_zero, List.set_cons_succ]
        refine wpAnyH_take (i := 13) (v := undef) rfl (by kernel_rfl) (by kernel_rfl) (by kernel_rfl) (fun _ _ _ h => h) (Or.inr ⟨by rfl, rfl⟩) (by assumption) ?_
        try simp only [Act.put, List.getElem_toArray, List.getElem_cons_zero, List.getElem_cons_succ, List.setIfInBounds_toArray, List.set_cons_zero, List.set_cons_succ]
        refine wpAnyH_take (i := 14) (v := undef) rfl (by kernel_rfl) (by kernel_rfl) (by kernel_rfl) (fun _ _ _ h => h) (Or.inr ⟨by rfl, rfl⟩) (by assumption) ?_
        try simp only [Act.put, List.getElem_toArray, List.getElem_cons_zero, List.getElem_cons_succ, List.setIfInBounds_toArray, List.set_cons_zero, List.set_cons_succ]
        refine wpAnyH_take (i := 15) (v := undef) rfl (by kernel_rfl) (by kernel_rfl) (by kernel_rfl) (fun _ _ _ h => h) (Or.inr ⟨by rfl, rfl⟩) (by assumption) ?_
        try simp only [Act.put, List.getElem_toArray, List.getElem_cons_zero, List.getElem_cons_succ, List.setIfInBounds_toArray, List.set_cons_zero, List.set_cons_succ]
        refine wpAnyH_take (i := 16) (v := undef) rfl (by kernel_rfl) (by kernel_rfl) (by kernel_rfl) (fun _ _ _ h => h) (Or.inr ⟨by rfl, rfl⟩) (by assumption) ?_
        try simp only [Act.put, List.getElem_toArray, List.getElem_cons_zero, List.getElem_cons_succ, List.setIfInBounds_toArray, List.set_cons_zero, List.set_cons_succ]
        refine wpAnyH_take (i := 17) (v := undef) rfl (by kernel_rfl) (by kernel_rfl) (by kernel_rfl) (fun _ _ _ h => h) (Or.inr ⟨by rfl, rfl⟩) (by assumption) ?_
        try simp only [Act.put, List.getElem_toArray, List.getElem_cons_zero, List.getElem_cons_succ, List.setIfInBounds_toArray, List.set_cons_zero, List.set_cons_succ]
        refine wpAnyH_take (i := 18) (v := undef) rfl (by kernel_rfl) (by kernel_rfl) (by kernel_rfl) (fun _ _ _ h => h) (Or.inr ⟨by rfl, rfl⟩) (by assumption) ?_
        try simp only [Act.put, List.getElem_toArray, List.getElem_cons_zero, List.getElem_cons_succ, List.setIfInBounds_toArray, List.set_cons_zero, List.set_cons_succ]
        refine wpAnyH_take (i := 19) (v := undef) rfl (by kernel_rfl) (by kernel_rfl) (by kernel_rfl) (fun _ _ _ h => h) (Or.inr ⟨by rfl, rfl⟩) (by assumption) ?_
        try simp only [Act.put, List.getElem_toArray, List.getElem_cons_zero, List.getElem_cons_succ, List.setIfInBounds_toArray, List.set_cons_zero, List.set_cons_succ]
        refine wpAnyH_take (i := 20) (v := undef) rfl (by kernel_rfl) (by kernel_rfl) (by kernel_rfl) (fun _ _ _ h => h) (Or.inr ⟨by rfl, rfl⟩) (by assumption) ?_
        try simp only [Act.put, List.getElem_toArray, List.getElem_cons_zero, List.getElem_cons_succ, List.setIfInBounds_toArray, List.set_cons_zero, List.set_cons_succ]
        refine wpAnyH_take (i := 21) (v := undef) rfl (by kernel_rfl) (by kernel_rfl) (by kernel_rfl) (fun _ _ _ h => h) (Or.inr ⟨by rfl, rfl⟩) (by assumption) ?_
        try simp only [Act.put, List.getElem_toArray, List.getElem_cons_zero, List.getElem_cons_succ, List.setIfInBounds_toArray, List.set_cons_zero, List.set_cons_succ]
        refine wpAnyH_take (i := 22) (v := undef) rfl (by kernel_rfl) (by kernel_rfl) (by kernel_rfl) (fun _ _ _ h => h) (Or.inr ⟨by rfl, rfl⟩) (by assumption) ?_
        try simp only [Act.put, List.getElem_toArray, List.getElem_cons_zero, List.getElem_cons_succ, List.setIfInBounds_toArray, List.set_cons_zero, List.set_cons_succ]
        refine wpAnyH_take (i := 23) (v := undef) rfl (by kernel_rfl) (by kernel_rfl) (by kernel_rfl) (fun _ _ _ h => h) (Or.inr ⟨by rfl, rfl⟩) (by assumption) ?_
        try simp only [Act.put, List.getElem_toArray, List.getElem_cons_zero, List.getElem_cons_succ, List.setIfInBounds_toArray, List.set_cons_zero, List.set_cons_succ]
        refine wpAnyH_take (i := 24) (v := undef) rfl (by kernel_rfl) (by kernel_rfl) (by kernel_rfl) (fun _ _ _ h => h) (Or.inr ⟨by rfl, rfl⟩) (by assumption) ?_
        try simp only [Act.put, List.getElem_toArray, List.getElem_cons_zero, List.getElem_cons_succ, List.setIfInBounds_toArray, List.set_cons_zero, List.set_cons_succ]
        refine wpAnyH_take (i := 25) (v := undef) rfl (by kernel_rfl) (by kernel_rfl) (by kernel_rfl) (fun _ _ _ h => h) (Or.inr ⟨by rfl, rfl⟩) (by assumption) ?_
        try simp only [Act.put, List.getElem_toArray, List.getElem_cons_zero, List.getElem_cons_succ, List.setIfInBounds_toArray, List.set_cons_zero, List.set_cons_succ]
        refine wpAnyH_take (i := 26) (v := .bool false) rfl (by kernel_rfl) (by kernel_rfl) (by kernel_rfl) (fun _ _ _ h => h) (Or.inl ⟨by rfl, ?_⟩) (by assumption) ?_
        case refine_1 => intro W hSw; go_simp; try rfl
        try simp only [Act.put, List.getElem_toArray, List.getElem_cons_zero, List.getElem_cons_succ, List.setIfInBounds_toArray, List.set_cons_zero, List.set_cons_succ]
        refine wpAnyH_done (by kernel_rfl) ?_ _
        clear hHeld
        go_wp2_with fail
        refine ⟨HNO.out HN.out, ?_⟩
        simp [intOf]
        omega
      have HY : Hid (bs[j]? = some y ∧ y.n = q.n ∧ y ∈ bs) := ⟨hyj, hyn, List.mem_of_getElem? hyj⟩
      have HYS : Hid (Sh al e.t q.n y.d ∧ 0 ≤ y.d ∧ y.d ≤ 65535 * (mb : Int)) := by
        have h3 := HBS.out.2.1.sh y HY.out.2.2
        have h4 := HBS.out.2.1.bf.nn HA.out.1.ok HY.out.2.2
        have h5 := HBS.out.2.1.bf.bd y HY.out.2.2
        rw [HBS.out.2.2.1] at h5
        rw [hyn] at h3
        exact ⟨h3, h4, h5⟩
      have HPC : Hid (e.c + y.d = q.d ↔ Pc al e q.n q.d) := pc_iff HST.out.1 HEF.out HQN.out.1 HYS.out.1
      have hjl : (j : Int) < (mb : Int) := by have h1 := (List.getElem?_eq_some_iff.1 hyj).1; have := HBS.out.2.2.1; omega
      have hj2 : (0 : Int) ≤ (j : Int) := by omega
      have HMY : Hid (wd.cell? ⟨bb, j * 3 + 1, none⟩ = some (.int .i64 y.d)) := by
        have h1 := (HOB.out.bel HBD.out).at0.1 j (by have h1 := (List.getElem?_eq_some_iff.1 hyj).1; exact h1) 1 (by decide)
        rw [(List.getElem?_eq_some_iff.1 hyj).2] at h1
        exact h1
      obtain ⟨d, hd⟩ : ∃ x, e.c + y.d = x := ⟨_, rfl⟩
      have HDD : Hid (e.c + y.d = d) := hd
      have hw3 : IntKind.i64.wrap (e.c + y.d) = d := by rw [← hd]; have h1 := HYS.out; have h2 := HST.out; have := HBS.out.2.2.2; have := HX.out.2.2; exact wr64 _ (by omega) (by omega)
      clear hyj hyn hd
      go_upto_region 12 with fail
      refine wp_region_held_drew (S := fun W => W = wd) (by kernel_rfl) HWD.out (fun hHeld => ?_)
      rw [HWD.out] at hHeld ⊢
      refine wpAnyH_take (i := 0) (v := .int .i64 (j : Int)) rfl (by kernel_rfl) (by kernel_rfl) (by kernel_rfl) (fun _ _ _ h => h) (Or.inl ⟨by rfl, ?_⟩) (by assumption) ?_
      case refine_1 => intro W hSw; go_simp; try rfl
      try simp only [Act.put, List.getElem_toArray, List.getElem_cons_zero, List.getElem_cons_succ, List.setIfInBounds_toArray, List.set_cons_zero, List.set_cons_succ]
      refine wpAnyH_take (i := 1) (v := .bool true) rfl (by kernel_rfl) (by kernel_rfl) (by kernel_rfl) (fun _ _ _ h => h) (Or.inl ⟨by rfl, ?_⟩) (by assumption) ?_
      case refine_1 => intro W hSw; go_simp; try rfl
      try simp only [Act.put, List.getElem_toArray, List.getElem_cons_zero, List.getElem_cons_succ, List.setIfInBounds_toArray, List.set_cons_zero, List.set_cons_succ]
      refine wpAnyH_take (i := 2) (v := .bool true) rfl (by kernel_rfl) (by kernel_rfl) (by kernel_rfl) (fun _ _ _ h => h) (Or.inl ⟨by rfl, ?_⟩) (by assumption) ?_
      case refine_1 => intro W hSw; go_simp; try rfl
      try simp only [Act.put, List.getElem_toArray, List.getElem_cons_zero, List.getElem_cons_succ, List.setIfInBounds_toArray, List.set_cons_zero, List.set_cons_succ]
      refine wpAnyH_take (i := 3) (v := .slice (some ⟨g, 0, none⟩) m c) rfl (by kernel_rfl) (by kernel_rfl) (by kernel_rfl) (fun _ _ _ h => h) (Or.inl ⟨by rfl, ?_⟩) (by assumption) ?_
      case refine_1 => intro W hSw; go_simp; try rfl
      try simp only [Act.put, List.getElem_toArray, List.getElem_cons_zero, List.getElem_cons_succ, List.setIfInBounds_toArray, List.set_cons_zero, List.set_cons_succ]
      refine wpAnyH_take (i := 4) (v := .int .i64 (k : Int)) rfl (by kernel_rfl) (by kernel_rfl) (by kernel_rfl) (fun _ _ _ h => h) (Or.inl ⟨by rfl, ?_⟩) (by assumption) ?_
      case refine_1 => intro W hSw; go_simp; try rfl
      try simp only [Act.put, List.getElem_toArray, List.getElem_cons_zero, List.getElem_cons_succ, List.setIfInBounds_toArray, List.set_cons_zero, List.set_cons_succ]
      refine wpAnyH_take (i := 5) (v := .pointer (some ⟨g, k * 3, none⟩)) rfl (by kernel_rfl) (by kernel_rfl) (by kernel_rfl) (fun _ _ _ h => h) (Or.inl ⟨by rfl, ?_⟩) (by assumption) ?_
      case refine_1 => intro W hSw; go_simp; try rfl
      try simp only [Act.put, List.getElem_toArray, List.getElem_cons_zero, List.getElem_cons_succ, List.setIfInBounds_toArray, List.set_cons_zero, List.set_cons_succ]
      refine wpAnyH_take (i := 6) (v := .pointer (some ⟨g, k * 3, none⟩)) rfl (by kernel_rfl) (by kernel_rfl) (by kernel_rfl) (fun _ _ _ h => h) (Or.inl ⟨by rfl, ?_⟩) (by assumption) ?_
      case refine_1 => intro W hSw; go_simp; try rfl
      try simp only [Act.put, List.getElem_toArray, List.getElem_cons_zero, List.getElem_cons_succ, List.setIfInBounds_toArray, List.set_cons_zero, List.set_cons_succ]
      refine wpAnyH_take (i := 7) (v := .int .i64 q.n) rfl (by kernel_rfl) (by kernel_rfl) (by kernel_rfl) (fun _ _ _ h => h) (Or.inl ⟨by rfl, ?_⟩) (by assumption) ?_
      case refine_1 => intro W hSw; rw [hSw]; have k1 := HM.out.1; go_simp; try rfl
      try simp only [Act.put, List.getElem_toArray, List.getElem_cons_zero, List.getElem_cons_succ, List.setIfInBounds_toArray, List.set_cons_zero, List.set_cons_succ]
      refine wpAnyH_take (i := 8) (v := .int .i64 root) rfl (by kernel_rfl) (by kernel_rfl) (by kernel_rfl) (fun _ _ _ h => h) (Or.inl ⟨by rfl, ?_⟩) (by assumption) ?_
      case refine_1 => intro W hSw; go_simp; try rfl
      try simp only [Act.put, List.getElem_toArray, List.getElem_cons_zero, List.getElem_cons_succ, List.setIfInBounds_toArray, List.set_cons_zero, List.set_cons_succ]
      by_cases hqr : q.n = root
      case pos =>
        have HN : Hid (¬ (e.f = root ∧ q.n ≠ root ∧ Pc al e q.n q.d)) := fun c => c.2.1 hqr
        have hbq : (q.n != root) = false := by simp [hqr]
        clear hqr
        refine wpAnyH_take (i := 9) (v := .bool false) rfl (by kernel_rfl) (by kernel_rfl) (by kernel_rfl) (fun _ _ _ h => h) (Or.inl ⟨by rfl, ?_⟩) (by assumption) ?_
        case refine_1 => intro W hSw; go_simp; try rfl
        try simp only [Act.put, List.getElem_toArray, List.getElem_cons_zero, List.getElem_cons_succ, List.setIfInBounds_toArray, List.set_cons_zero, List.set_cons_succ]
        refine wpAnyH_take (i := 10) (v := .bool false) rfl (by kernel_rfl) (by kernel_rfl) (by kernel_rfl) (fun _ _ _ h => h) (Or.inl ⟨by rfl, ?_⟩) (by assumption) ?_
        case refine_1 => intro W hSw; go_simp; try rfl
        try simp only [Act.put, List.getElem_toArray, List.getElem_cons_zero, List.getElem_cons_succ, List.setIfInBounds_toArray, List.set_cons_zero, List.set_cons_succ]
        refine wpAnyH_take (i := 11) (v := .bool false) rfl (by kernel_rfl) (by kernel_rfl) (by kernel_rfl) (fun _ _ _ h => h) (Or.inl ⟨by rfl, ?_⟩) (by assumption) ?_
        case refine_1 => intro W hSw; go_simp; try rfl
        try simp only [Act.put, List.getElem_toArray, List.getElem_cons_zero, List.getElem_cons_succ, List.setIfInBounds_toArray, List.set_cons_zero, List.set_cons_succ]
        refine wpAnyH_take (i := 12) (v := undef) rfl (by kernel_rfl) (by kernel_rfl) (by kernel_rfl) (fun _ _ _ h => h) (Or.inr ⟨by rfl, rfl⟩) (by assumption) ?_
        try simp only [Act.put, List.getElem_toArray, List.getElem_cons_zero, List.getElem_cons_succ, List.setIfInBounds_toArray, List.set_cons_zero, List.set_cons_succ]
        refine wpAnyH_take (i := 13) (v := undef) rfl (by kernel_rfl) (by kernel_rfl) (by kernel_rfl) (fun _ _ _ h => h) (Or.inr ⟨by rfl, rfl⟩) (by assumption) ?_
        try simp only [Act.put, List.getElem_toArray, List.getElem_cons_zero, List.getElem_cons_succ, List.setIfInBounds_toArray, List.set_cons_zero, List.set_cons_succ]
        refine wpAnyH_take (i := 14) (v := undef) rfl (by kernel_rfl) (by kernel_rfl) (by kernel_rfl) (fun _ _ _ h => h) (Or.inr ⟨by rfl, rfl⟩) (by assumption) ?_
        try simp only [Act.put, List.getElem_toArray, List.getElem_cons_zero, List.getElem_cons_succ, List.setIfInBounds_toArray, List.set_cons_zero, List.set_cons_succ]
        refine wpAnyH_take (i := 15) (v := undef) rfl (by kernel_rfl) (by kernel_rfl) (by kernel_rfl) (fun _ _ _ h => h) (Or.inr ⟨by rfl, rfl⟩) (by assumption) ?_
        try simp only [Act.put, List.getElem_toArray, List.getElem_cons_zero, List.getElem_cons_succ, List.setIfInBounds_toArray, List.set_cons_zero, List.set_cons_succ]
        refine wpAnyH_take (i := 16) (v := undef) rfl (by kernel_rfl) (by kernel_rfl) (by kernel_rfl) (fun _ _ _ h => h) (Or.inr ⟨by rfl, rfl⟩) (by assumption) ?_
        try simp only [Act.put, List.getElem_toArray, List.getElem_cons_zero, List.getElem_cons_succ, List.setIfInBounds_toArray, List.set_cons_zero, List.set_cons_succ]
        refine wpAnyH_take (i := 17) (v := undef) rfl (by kernel_rfl) (by kernel_rfl) (by kernel_rfl) (fun _ _ _ h => h) (Or.inr ⟨by rfl, rfl⟩) (by assumption) ?_
        try simp only [Act.put, List.getElem_toArray, List.getElem_cons_zero, List.getElem_cons_succ, List.setIfInBounds_toArray, List.set_cons_zero, List.set_cons_succ]
        refine wpAnyH_take (i := 18) (v := undef) rfl (by kernel_rfl) (by kernel_rfl) (by kernel_rfl) (fun _ _ _ h => h) (Or.inr ⟨by rfl, rfl⟩) (by assumption) ?_
        try simp only [Act.put, List.getElem_toArray, List.getElem_cons_zero, List.getElem_cons_succ, List.setIfInBounds_toArray, List.set_cons_zero, List.set_cons_succ]
        refine wpAnyH_take (i := 19) (v := undef) rfl (by kernel_rfl) (by kernel_rfl) (by kernel_rfl) (fun _ _ _ h => h) (Or.inr ⟨by rfl, rfl⟩) (by assumption) ?_
        try simp only [Act.put, List.getElem_toArray, List.getElem_cons_zero, List.getElem_cons_succ, List.setIfInBounds_toArray, List.set_cons_zero, List.set_cons_succ]
        refine wpAnyH_take (i := 20) (v := undef) rfl (by kernel_rfl) (by kernel_rfl) (by kernel_rfl) (fun _ _ _ h => h) (Or.inr ⟨by rfl, rfl⟩) (by assumption) ?_
        try simp only [Act.put, List.getElem_toArray, List.getElem_cons_zero, List.getElem_cons_succ, List.setIfInBounds_toArray, List.set_cons_zero, List.set_cons_succ]
        refine wpAnyH_take (i := 21) (v := undef) rfl (by kernel_rfl) (by kernel_rfl) (by kernel_rfl) (fun _ _ _ h => h) (Or.inr ⟨by rfl, rfl⟩) (by assumption) ?_
        try simp only [Act.put, List.getElem_toArray, List.getElem_cons_zero, List.getElem_cons_succ, List.setIfInBounds_toArray, List.set_cons_zero, List.set_cons_succ]
        refine wpAnyH_take (i := 22) (v := undef) rfl (by kernel_rfl) (by kernel_rfl) (by kernel_rfl) (fun _ _ _ h => h) (Or.inr ⟨by rfl, rfl⟩) (by assumption) ?_
        try simp only [Act.put, List.getElem_toArray, List.getElem_cons_zero, List.getElem_cons_succ, List.setIfInBounds_toArray, List.set_cons_zero, List.set_cons_succ]
        refine wpAnyH_take (i := 23) (v := undef) rfl (by kernel_rfl) (by kernel_rfl) (by kernel_rfl) (fun _ _ _ h => h) (Or.inr ⟨by rfl, rfl⟩) (by assumption) ?_
        try simp only [Act.put, List.getElem_toArray, List.getElem_cons_zero, List.getElem_cons_succ, List.setIfInBounds_toArray, List.set_cons_zero, List.set_cons_succ]
        refine wpAnyH_take (i := 24) (v := undef) rfl (by kernel_rfl) (by kernel_rfl) (by kernel_rfl) (fun _ _ _ h => h) (Or.inr ⟨by rfl, rfl⟩) (by assumption) ?_
        try simp only [Act.put, List.getElem_toArray, List.getElem_cons_zero, List.getElem_cons_succ, List.setIfInBounds_toArray, List.set_cons_zero, List.set_cons_succ]
        refine wpAnyH_take (i := 25) (v := undef) rfl (by kernel_rfl) (by kernel_rfl) (by kernel_rfl) (fun _ _ _ h => h) (Or.inr ⟨by rfl, rfl⟩) (by assumption) ?_
        try simp only [Act.put, List.getElem_toArray, List.getElem_cons_zero, List.getElem_cons_succ, List.setIfInBounds_toArray, List.set_cons_zero, List.set_cons_succ]
        refine wpAnyH_take (i := 26) (v := .bool false) rfl (by kernel_rfl) (by kernel_rfl) (by kernel_rfl) (fun _ _ _ h => h) (Or.inl ⟨by rfl, ?_⟩) (by assumption) ?_
        case refine_1 => intro W hSw; go_simp; try rfl
        try simp only [Act.put, List.getElem_toArray, List.getElem_cons_zero, List.getElem_cons_succ, List.setIfInBounds_toArray, List.set_cons_zero, List.set_cons_succ]
        refine wpAnyH_done (by kernel_rfl) ?_ _
        clear hHeld
        go_wp2_with fail
        refine ⟨HNO.out HN.out, ?_⟩
        simp [intOf]
        omega
      have HQR : Hid (q.n ≠ root) := hqr
      have hbq : (q.n != root) = true := by simp [hqr]
      clear hqr
      refine wpAnyH_take (i := 9) (v := .bool true) rfl (by kernel_rfl) (by kernel_rfl) (by kernel_rfl) (fun _ _ _ h => h) (Or.inl ⟨by rfl, ?_⟩) (by assumption) ?_
      case refine_1 => intro W hSw; go_simp; try rfl
      try simp only [Act.put, List.getElem_toArray, List.getElem_cons_zero, List.getElem_cons_succ, List.setIfInBounds_toArray, List.set_cons_zero, List.set_cons_succ]
      refine wpAnyH_take (i := 10) (v := .bool true) rfl (by kernel_rfl) (by kernel_rfl) (by kernel_rfl) (fun _ _ _ h => h) (Or.inl ⟨by rfl, ?_⟩) (by assumption) ?_
      case refine_1 => intro W hSw; go_simp; try rfl
      try simp only [Act.put, List.getElem_toArray, List.getElem_cons_zero, List.getElem_cons_succ, List.setIfInBounds_toArray, List.set_cons_zero, List.set_cons_succ]
      refine wpAnyH_take (i := 11) (v := .bool true) rfl (by kernel_rfl) (by kernel_rfl) (by kernel_rfl) (fun _ _ _ h => h) (Or.inl ⟨by rfl, ?_⟩) (by assumption) ?_
      case refine_1 => intro W hSw; go_simp; try rfl
      try simp only [Act.put, List.getElem_toArray, List.getElem_cons_zero, List.getElem_cons_succ, List.setIfInBounds_toArray, List.set_cons_zero, List.set_cons_succ]
      refine wpAnyH_take (i := 12) (v := .pointer (some ⟨b8, 2, none⟩)) rfl (by kernel_rfl) (by kernel_rfl) (by kernel_rfl) (fun _ _ _ h => h) (Or.inl ⟨by rfl, ?_⟩) (by assumption) ?_
      case refine_1 => intro W hSw; go_simp; try rfl
      try simp only [Act.put, List.getElem_toArray, List.getElem_cons_zero, List.getElem_cons_succ, List.setIfInBounds_toArray, List.set_cons_zero, List.set_cons_succ]
      refine wpAnyH_take (i := 13) (v := .int .i64 e.c) rfl (by kernel_rfl) (by kernel_rfl) (by kernel_rfl) (fun _ _ _ h => h) (Or.inl ⟨by rfl, ?_⟩) (by assumption) ?_
      case refine_1 => intro W hSw; rw [hSw]; have k1 := HM.out.2.2.2.1; go_simp; try rfl
      try simp only [Act.put, List.getElem_toArray, List.getElem_cons_zero, List.getElem_cons_succ, List.setIfInBounds_toArray, List.set_cons_zero, List.set_cons_succ]
      refine wpAnyH_take (i := 14) (v := .slice (some ⟨bb, 0, none⟩) mb cb) rfl (by kernel_rfl) (by kernel_rfl) (by kernel_rfl) (fun _ _ _ h => h) (Or.inl ⟨by rfl, ?_⟩) (by assumption) ?_
      case refine_1 => intro W hSw; go_simp; try rfl
      try simp only [Act.put, List.getElem_toArray, List.getElem_cons_zero, List.getElem_cons_succ, List.setIfInBounds_toArray, List.set_cons_zero, List.set_cons_succ]
      refine wpAnyH_take (i := 15) (v := .int .i64 (j : Int)) rfl (by kernel_rfl) (by kernel_rfl) (by kernel_rfl) (fun _ _ _ h => h) (Or.inl ⟨by rfl, ?_⟩) (by assumption) ?_
      case refine_1 => intro W hSw; go_simp; try rfl
      try simp only [Act.put, List.getElem_toArray, List.getElem_cons_zero, List.getElem_cons_succ, List.setIfInBounds_toArray, List.set_cons_zero, List.set_cons_succ]
      refine wpAnyH_take (i := 16) (v := .pointer (some ⟨bb, j * 3, none⟩)) rfl (by kernel_rfl) (by kernel_rfl) (by kernel_rfl) (fun _ _ _ h => h) (Or.inl ⟨by rfl, ?_⟩) (by assumption) ?_
      case refine_1 => intro W hSw; go_simp; try rfl
      try simp only [Act.put, List.getElem_toArray, List.getElem_cons_zero, List.getElem_cons_succ, List.setIfInBounds_toArray, List.set_cons_zero, List.set_cons_succ]
      refine wpAnyH_take (i := 17) (v := .pointer (some ⟨bb, j * 3 + 1, none⟩)) rfl (by kernel_rfl) (by kernel_rfl) (by kernel_rfl) (fun _ _ _ h => h) (Or.inl ⟨by rfl, ?_⟩) (by assumption) ?_
      case refine_1 => intro W hSw; go_simp; try rfl
      try simp only [Act.put, List.getElem_toArray, List.getElem_cons_zero, List.getElem_cons_succ, List.setIfInBounds_toArray, List.set_cons_zero, List.set_cons_succ]
      refine wpAnyH_take (i := 18) (v := .int .i64 y.d) rfl (by kernel_rfl) (by kernel_rfl) (by kernel_rfl) (fun _ _ _ h => h) (Or.inl ⟨by rfl, ?_⟩) (by assumption) ?_
      case refine_1 => intro W hSw; rw [hSw]; have k1 := HMY.out; go_simp; try rfl
      try simp only [Act.put, List.getElem_toArray, List.getElem_cons_zero, List.getElem_cons_succ, List.setIfInBounds_toArray, List.set_cons_zero, List.set_cons_succ]
      refine wpAnyH_take (i := 19) (v := .int .i64 d) rfl (by kernel_rfl) (by kernel_rfl) (by kernel_rfl) (fun _ _ _ h => h) (Or.inl ⟨by rfl, ?_⟩) (by assumption) ?_
      case refine_1 => intro W hSw; go_simp; try rfl
      try simp only [Act.put, List.getElem_toArray, List.getElem_cons_zero, List.getElem_cons_succ, List.setIfInBounds_toArray, List.set_cons_zero, List.set_cons_succ]
      refine wpAnyH_take (i := 20) (v := .slice (some ⟨g, 0, none⟩) m c) rfl (by kernel_rfl) (by kernel_rfl) (by kernel_rfl) (fun _ _ _ h => h) (Or.inl ⟨by rfl, ?_⟩) (by assumption) ?_
      case refine_1 => intro W hSw; go_simp; try rfl
      try simp only [Act.put, List.getElem_toArray, List.getElem_cons_zero, List.getElem_cons_succ, List.setIfInBounds_toArray, List.set_cons_zero, List.set_cons_succ]
      refine wpAnyH_take (i := 21) (v := .int .i64 (k : Int)) rfl (by kernel_rfl) (by kernel_rfl) (by kernel_rfl) (fun _ _ _ h => h) (Or.inl ⟨by rfl, ?_⟩) (by assumption) ?_
      case refine_1 => intro W hSw; go_simp; try rfl
      try simp only [Act.put, List.getElem_toArray, List.getElem_cons_zero, List.getElem_cons_succ, List.setIfInBounds_toArray, List.set_cons_zero, List.set_cons_succ]
      refine wpAnyH_take (i := 22) (v := .pointer (some ⟨g, k * 3, none⟩)) rfl (by kernel_rfl) (by kernel_rfl) (by kernel_rfl) (fun _ _ _ h => h) (Or.inl ⟨by rfl, ?_⟩) (by assumption) ?_
      case refine_1 => intro W hSw; go_simp; try rfl
      try simp only [Act.put, List.getElem_toArray, List.getElem_cons_zero, List.getElem_cons_succ, List.setIfInBounds_toArray, List.set_cons_zero, List.set_cons_succ]
      refine wpAnyH_take (i := 23) (v := .pointer (some ⟨g, k * 3 + 1, none⟩)) rfl (by kernel_rfl) (by kernel_rfl) (by kernel_rfl) (fun _ _ _ h => h) (Or.inl ⟨by rfl, ?_⟩) (by assumption) ?_
      case refine_1 => intro W hSw; go_simp; try rfl
      try simp only [Act.put, List.getElem_toArray, List.getElem_cons_zero, List.getElem_cons_succ, List.setIfInBounds_toArray, List.set_cons_zero, List.set_cons_succ]
      refine wpAnyH_take (i := 24) (v := .int .i64 q.d) rfl (by kernel_rfl) (by kernel_rfl) (by kernel_rfl) (fun _ _ _ h => h) (Or.inl ⟨by rfl, ?_⟩) (by assumption) ?_
      case refine_1 => intro W hSw; rw [hSw]; have k1 := HM.out.2.1; go_simp; try rfl
      try simp only [Act.put, List.getElem_toArray, List.getElem_cons_zero, List.getElem_cons_succ, List.setIfInBounds_toArray, List.set_cons_zero, List.set_cons_succ]
      by_cases hdq : d = q.d
      case neg =>
        have HN : Hid (¬ (e.f = root ∧ q.n ≠ root ∧ Pc al e q.n q.d)) := fun c => hdq (by rw [← HDD.out]; exact HPC.out.2 c.2.2)
        have hbd : (d == q.d) = false := beq_false_of_ne hdq
        clear hdq
        refine wpAnyH_take (i := 25) (v := .bool false) rfl (by kernel_rfl) (by kernel_rfl) (by kernel_rfl) (fun _ _ _ h => h) (Or.inl ⟨by rfl, ?_⟩) (by assumption) ?_
        case refine_1 => intro W hSw; go_simp; try rfl
        try simp only [Act.put, List.getElem_toArray, List.getElem_cons_zero, List.getElem_cons_succ, List.setIfInBounds_toArray, List.set_cons_zero, List.set_cons_succ]
        refine wpAnyH_take (i := 26) (v := .bool false) rfl (by kernel_rfl) (by kernel_rfl) (by kernel_rfl) (fun _ _ _ h => h) (Or.inl ⟨by rfl, ?_⟩) (by assumption) ?_
        case refine_1 => intro W hSw; go_simp; try rfl
        try simp only [Act.put, List.getElem_toArray, List.getElem_cons_zero, List.getElem_cons_succ, List.setIfInBounds_toArray, List.set_cons_zero, List.set_cons_succ]
        refine wpAnyH_done (by kernel_rfl) ?_ _
        clear hHeld
        go_wp2_with fail
        refine ⟨HNO.out HN.out, ?_⟩
        simp [intOf]
        omega
      have HPQ : Hid (Pc al e q.n q.d) := HPC.out.1 (by rw [HDD.out]; exact hdq)
      have hbd : (d == q.d) = true := by simp [hdq]
      clear hdq
      refine wpAnyH_take (i := 25) (v := .bool true) rfl (by kernel_rfl) (by kernel_rfl) (by kernel_rfl) (fun _ _ _ h => h) (Or.inl ⟨by rfl, ?_⟩) (by assumption) ?_
      case refine_1 => intro W hSw; go_simp; try rfl
      try simp only [Act.put, List.getElem_toArray, List.getElem_cons_zero, List.getElem_cons_succ, List.setIfInBounds_toArray, List.set_cons_zero, List.set_cons_succ]
      refine wpAnyH_take (i := 26) (v := .bool true) rfl (by kernel_rfl) (by kernel_rfl) (by kernel_rfl) (fun _ _ _ h => h) (Or.inl ⟨by rfl, ?_⟩) (by assumption) ?_
      case refine_1 => intro W hSw; go_simp; try rfl
      try simp only [Act.put, List.getElem_toArray, List.getElem_cons_zero, List.getElem_cons_succ, List.setIfInBounds_toArray, List.set_cons_zero, List.set_cons_succ]
      refine wpAnyH_done (by kernel_rfl) ?_ _
      clear hHeld hw3 hbd hbq
      go_upto_region 13 with fail
      obtain ⟨we, hwe⟩ : ∃ y, wd.drew = y := ⟨_, rfl⟩
      have HWE : Hid (wd.drew = we) := hwe
      have HBE : Hid (Below wd.heap.size wd we) := by rw [← hwe]; exact drew_bel wd
      clear hwe
      have HRE : Hid (RI al ss root rs0 w1.heap.size g m c b8 bb w9 i k rs2 we ∧ Below w1.heap.size w1 we) := ⟨HRD.out.1.bel HBE.out, HRD.out.2.trans (HBE.out.mono HRD.out.2.size)⟩
      have HSE : Hid (SB EdK b8 (edL e) we ∧ we.cell? ⟨g, k * 3 + 2, none⟩ = some (lv q)) := ⟨HS8.out.blk ((HBD.out.trans (HBE.out.mono HBD.out.size)).block b8 HS8.out.lt), HCQ.out we (HBD.out.trans (HBE.out.mono HBD.out.size)) 2 (by decide)⟩
      obtain ⟨qa, hqa⟩ : ∃ x, q.a = x := ⟨_, rfl⟩
      obtain ⟨qc, hqc⟩ : ∃ x, q.c = x := ⟨_, rfl⟩
      obtain ⟨ql, hql⟩ : ∃ x, q.ls.length = x := ⟨_, rfl⟩
      have HLV : Hid (lv q = .slice qa ql qc ∧ q.ls.length = ql) := ⟨by unfold lv; rw [hqa, hqc, hql], hql⟩
      have HQL : Hid (ql ≤ n) := by have h1 := (HJ.out.2.lw k q HQ.out).len; have := HS.out; show _ ≤ _; omega
      clear hqa hqc hql
      refine wp_region_held_drew (S := fun W => SB EdK b8 (edL e) W) (by kernel_rfl) (by rw [HWE.out]; exact HSE.out.1) (fun hHeld => ?_)
      rw [HWE.out] at hHeld ⊢
      refine wpAnyH_take (i := 0) (v := .slice (some ⟨g, 0, none⟩) m c) rfl (by kernel_rfl) (by kernel_rfl) (by kernel_rfl) (fun _ _ _ h => h) (Or.inl ⟨by rfl, ?_⟩) (by assumption) ?_
      case refine_1 => intro W hSw; go_simp; try rfl
      try simp only [Act.put, List.getElem_toArray, List.getElem_cons_zero, List.getElem_cons_succ, List.setIfInBounds_toArray, List.set_cons_zero, List.set_cons_succ]
      refine wpAnyH_take (i := 1) (v := .int .i64 (k : Int)) rfl (by kernel_rfl) (by kernel_rfl) (by kernel_rfl) (fun _ _ _ h => h) (Or.inl ⟨by rfl, ?_⟩) (by assumption) ?_
      case refine_1 => intro W hSw; go_simp; try rfl
      try simp only [Act.put, List.getElem_toArray, List.getElem_cons_zero, List.getElem_cons_succ, List.setIfInBounds_toArray, List.set_cons_zero, List.set_cons_succ]
      refine wpAnyH_take (i := 2) (v := .slice (some ⟨g, 0, none⟩) m c) rfl (by kernel_rfl) (by kernel_rfl) (by kernel_rfl) (fun _ _ _ h => h) (Or.inl ⟨by rfl, ?_⟩) (by assumption) ?_
      case refine_1 => intro W hSw; go_simp; try rfl
      try simp only [Act.put, List.getElem_toArray, List.getElem_cons_zero, List.getElem_cons_succ, List.setIfInBounds_toArray, List.set_cons_zero, List.set_cons_succ]
      refine wpAnyH_take (i := 3) (v := .int .i64 (k : Int)) rfl (by kernel_rfl) (by kernel_rfl) (by kernel_rfl) (fun _ _ _ h => h) (Or.inl ⟨by rfl, ?_⟩) (by assumption) ?_
      case refine_1 => intro W hSw; go_simp; try rfl
      try simp only [Act.put, List.getElem_toArray, List.getElem_cons_zero, List.getElem_cons_succ, List.setIfInBounds_toArray, List.set_cons_zero, List.set_cons_succ]
      refine wpAnyH_take (i := 4) (v := .pointer (some ⟨g, k * 3, none⟩)) rfl (by kernel_rfl) (by kernel_rfl) (by kernel_rfl) (fun _ _ _ h => h) (Or.inl ⟨by rfl, ?_⟩) (by assumption) ?_
      case refine_1 => intro W hSw; go_simp; try rfl
      try simp only [Act.put, List.getElem_toArray, List.getElem_cons_zero, List.getElem_cons_succ, List.setIfInBounds_toArray, List.set_cons_zero, List.set_cons_succ]
      refine wpAnyH_take (i := 5) (v := .pointer (some ⟨g, k * 3 + 2, none⟩)) rfl (by kernel_rfl) (by kernel_rfl) (by kernel_rfl) (fun _ _ _ h => h) (Or.inl ⟨by rfl, ?_⟩) (by assumption) ?_
      case refine_1 => intro W hSw; go_simp; try rfl
      try simp only [Act.put, List.getElem_toArray, List.getElem_cons_zero, List.getElem_cons_succ, List.setIfInBounds_toArray, List.set_cons_zero, List.set_cons_succ]
      refine wpAnyH_take (i := 7) (v := .pointer (some ⟨b8, 3, none⟩)) rfl (by kernel_rfl) (by kernel_rfl) (by kernel_rfl) (fun _ _ _ h => h) (Or.inl ⟨by rfl, ?_⟩) (by assumption) ?_
      case refine_1 => intro W hSw; go_simp; try rfl
      try simp only [Act.put, List.getElem_toArray, List.getElem_cons_zero, List.getElem_cons_succ, List.setIfInBounds_toArray, List.set_cons_zero, List.set_cons_succ]
      refine wpAnyH_take (i := 8) (v := .int .i64 e.l) rfl (by kernel_rfl) (by kernel_rfl) (by kernel_rfl) (fun _ _ _ h => h) (Or.inl ⟨by rfl, ?_⟩) (by assumption) ?_
      case refine_1 => intro W hSw; have k1 : W.cell? ⟨b8, 3, none⟩ = some (.int .i64 e.l) := hSw.cell 3; go_simp; try rfl
      try simp only [Act.put, List.getElem_toArray, List.getElem_cons_zero, List.getElem_cons_succ, List.setIfInBounds_toArray, List.set_cons_zero, List.set_cons_succ]
      refine wpAnyH_ready (rs := [6, 9]) (by kernel_rfl) (by simp) ?_
      refine AllReadyH.cons rfl (fun K hK => ?_) (AllReadyH.cons rfl (fun K hK => ?_) AllReadyH.nil)
      case' refine_1 =>
        have k6 : we.cell? ⟨g, k * 3 + 2, none⟩ = some (.slice qa ql qc) := by rw [← HLV.out.1]; exact HSE.out.2
        go_simp
        clear k6
        refine hK.out _ _ HSE.out.1 (fun hHeld => ?_)
        clear hK K
        try simp only [Act.put, List.getElem_toArray, List.getElem_cons_zero, List.getElem_cons_succ, List.setIfInBounds_toArray, List.set_cons_zero, List.set_cons_succ]
        refine wpAnyH_ready (rs := [9]) (by kernel_rfl) (by simp) ?_
        refine AllReadyH.cons rfl (fun K hK => ?_) AllReadyH.nil
        refine ibu_step (.tmp 78) rfl (m := e.l) rfl rfl (fun b79 w79 hb79 hl79 hbl79 => ?_)
        have HB79 : Hid (Below we.heap.size we w79) := hbl79.out
        have HL79 : Hid (Lst EI w79 (some ⟨b79, 0, none⟩) [e.l]) := hl79.out
        clear hb79 hl79 hbl79
        have HS79 : Hid (SB EdK b8 (edL e) w79 ∧ w79.cell? ⟨g, k * 3 + 2, none⟩ = some (lv q)) := ⟨HSE.out.1.blk (HB79.out.block b8 HSE.out.1.lt), (World.cell?_of_block (w := we) (HB79.out.block g HRE.out.1.pw.ow.at0.2.2.1)).trans HSE.out.2⟩
        refine hK.out _ _ HS79.out.1 (fun hHeld => ?_)
        clear hK K
        try simp only [Act.put, List.getElem_toArray, List.getElem_cons_zero, List.getElem_cons_succ, List.setIfInBounds_toArray, List.set_cons_zero, List.set_cons_succ]
      case' refine_2 =>
        refine ibu_step (.tmp 78) rfl (m := e.l) rfl rfl (fun b79 w79 hb79 hl79 hbl79 => ?_)
        have HB79 : Hid (Below we.heap.size we w79) := hbl79.out
        have HL79 : Hid (Lst EI w79 (some ⟨b79, 0, none⟩) [e.l]) := hl79.out
        clear hb79 hl79 hbl79
        have HS79 : Hid (SB EdK b8 (edL e) w79 ∧ w79.cell? ⟨g, k * 3 + 2, none⟩ = some (lv q)) := ⟨HSE.out.1.blk (HB79.out.block b8 HSE.out.1.lt), (World.cell?_of_block (w := we) (HB79.out.block g HRE.out.1.pw.ow.at0.2.2.1)).trans HSE.out.2⟩
        refine hK.out _ _ HS79.out.1 (fun hHeld => ?_)
        clear hK K
        try simp only [Act.put, List.getElem_toArray, List.getElem_cons_zero, List.getElem_cons_succ, List.setIfInBounds_toArray, List.set_cons_zero, List.set_cons_succ]
        refine wpAnyH_ready (rs := [6]) (by kernel_rfl) (by simp) ?_
        refine AllReadyH.cons rfl (fun K hK => ?_) AllReadyH.nil
        have k6 : w79.cell? ⟨g, k * 3 + 2, none⟩ = some (.slice qa ql qc) := by rw [← HLV.out.1]; exact HS79.out.2
        go_simp
        clear k6
        refine hK.out _ _ HS79.out.1 (fun hHeld => ?_)
        clear hK K
        try simp only [Act.put, List.getElem_toArray, List.getElem_cons_zero, List.getElem_cons_succ, List.setIfInBounds_toArray, List.set_cons_zero, List.set_cons_succ]
      all_goals (
        have HOW : Hid (OwnL EI w1.heap.size w79 (.slice qa ql qc) q.ls) := by
          have h1 := ((HRE.out.1.pw.ck k q HQ.out).1).bel HB79.out
          rw [HLV.out.1] at h1
          exact h1
        refine wpAnyH_ready (rs := [10]) (by kernel_rfl) (by simp) ?_
        refine AllReadyH.cons rfl (fun K hK => ?_) AllReadyH.nil
        refine step_appL EI (.tmp 76) (.tmp 79) 30 rfl rfl w1.heap.size (.slice qa ql qc) q.ls [e.l] (some ⟨b79, 0, none⟩) 1 1 w79 (by have := HLV.out.2; have := HQL.out; have := HX.out.2.2; omega) rfl HOW.out rfl HL79.out (fun h => by cases h) rfl (Nat.le_trans HRE.out.2.size HB79.out.size) rfl (fun v80 w80 ho80 hg80 ha80 => ?_)
        obtain ⟨a80, c80, hv80⟩ := own_sl ho80.out
        subst hv80
        have HO80 : Hid (OwnL EI w1.heap.size w80 (.slice a80 (q.ls ++ [e.l]).length c80) (q.ls ++ [e.l])) := ho80.out
        have HADD : Hid (RI al ss root rs0 w1.heap.size g m c b8 bb w9 i (k + 1) (rs2.set k ⟨q.n, q.d, q.ls ++ [e.l], a80, c80⟩) (w80.setCell ⟨g, k * 3 + 2, none⟩ (.slice a80 (q.ls ++ [e.l]).length c80)) ∧ Below w1.heap.size we (w80.setCell ⟨g, k * 3 + 2, none⟩ (.slice a80 (q.ls ++ [e.l]).length c80))) := HRE.out.1.add HA.out.2.1.so HEi.out HQ.out HEF.out HQR.out HPQ.out HB79.out HO80.out (by rw [HLV.out.1]; exact hg80.out) (by rw [HLV.out.1]; exact ha80.out)
        have hne8 : (Value.slice qa ql qc).ownBlock ≠ some b8 := by have h1 := (HRE.out.1.pw.ck k q HQ.out).2.2 b8 (by simp); rw [HLV.out.1] at h1; exact h1
        have hneg : (Value.slice qa ql qc).ownBlock ≠ some g := by have h1 := (HRE.out.1.pw.ck k q HQ.out).2.1; rw [HLV.out.1] at h1; exact h1
        have HG80 : Hid (w80.heap[g]? = w79.heap[g]? ∧ w80.heap[b8]? = w79.heap[b8]?) := ⟨hg80.out.block g (Nat.lt_of_lt_of_le HRE.out.1.pw.ow.at0.2.2.1 HB79.out.size) (Ne.symm hneg), hg80.out.block b8 HS79.out.1.lt (Ne.symm hne8)⟩
        have HS80 : Hid (SB EdK b8 (edL e) w80) := HS79.out.1.blk HG80.out.2
        refine hK.out _ _ HS80.out (fun hHeld => ?_)
        clear hK K ho80 hg80 ha80 hne8 hneg
        try simp only [Act.put, List.getElem_toArray, List.getElem_cons_zero, List.getElem_cons_succ, List.setIfInBounds_toArray, List.set_cons_zero, List.set_cons_succ]
        refine wpAnyH_take (i := 11) (v := .pointer (some ⟨g, k * 3, none⟩)) rfl (by kernel_rfl) (by kernel_rfl) (by kernel_rfl) (fun _ _ _ h => h) (Or.inl ⟨by rfl, ?_⟩) (by assumption) ?_
        case refine_1 => intro W hSw; go_simp; try rfl
        try simp only [Act.put, List.getElem_toArray, List.getElem_cons_zero, List.getElem_cons_succ, List.setIfInBounds_toArray, List.set_cons_zero, List.set_cons_succ]
        refine wpAnyH_take (i := 12) (v := .pointer (some ⟨g, k * 3 + 2, none⟩)) rfl (by kernel_rfl) (by kernel_rfl) (by kernel_rfl) (fun _ _ _ h => h) (Or.inl ⟨by rfl, ?_⟩) (by assumption) ?_
        case refine_1 => intro W hSw; go_simp; try rfl
        try simp only [Act.put, List.getElem_toArray, List.getElem_cons_zero, List.getElem_cons_succ, List.setIfInBounds_toArray, List.set_cons_zero, List.set_cons_succ]
        have HCG : Hid (w80.cell? ⟨g, k * 3 + 2, none⟩ = some (lv q) ∧ w80.frozen? ⟨g, k * 3 + 2, none⟩ = false) := ⟨(World.cell?_of_block (w := w79) HG80.out.1).trans HS79.out.2, (World.frozen?_of_block (w := w79) HG80.out.1).trans (by
          have h1 := (HRE.out.1.pw.ow.bel HB79.out).at0.2.1 (k * 3 + 2)
          exact h1)⟩
        refine wpAnyH_ready (rs := [13]) (by kernel_rfl) (by simp) ?_
        refine AllReadyH.cons rfl (fun K hK => ?_) AllReadyH.nil
        have kc := HCG.out.1
        have kf := HCG.out.2
        go_simp
        clear kc kf
        have HS81 : Hid (SB EdK b8 (edL e) (w80.setCell ⟨g, k * 3 + 2, none⟩ (.slice a80 (q.ls ++ [e.l]).length c80))) := HS80.out.blk (Below.heap_setCell w80 ⟨g, k * 3 + 2, none⟩ _ b8 (HRE.out.1.pw.fo b8 (by simp)).2)
        refine hK.out _ _ (by have h1 := HS81.out; first | exact h1 | (simp at h1 ⊢; exact h1)) (fun hHeld => ?_)
        clear hK K
        refine wpAnyH_done (by kernel_rfl) ?_ _
        have HG : Hid (∃ (k2 : Nat) (rs3 : List Rc), k2 ≤ m ∧ Value.int .i64 (↑k + 1) = .int .i64 (k2 : Int) ∧ Below w1.heap.size w1 (w80.setCell ⟨g, k * 3 + 2, none⟩ (.slice a80 (q.ls ++ [e.l]).length c80)) ∧ RI al ss root rs0 w1.heap.size g m c b8 bb w9 i k2 rs3 (w80.setCell ⟨g, k * 3 + 2, none⟩ (.slice a80 (q.ls ++ [e.l]).length c80))) := ⟨k + 1, _, by omega, by simp, HRE.out.2.trans HADD.out.2, HADD.out.1⟩
        clear hHeld
        go_wp2_with fail
        refine ⟨(by first | exact HG.out | (have h1 := HG.out; simp only [List.length_append, List.length_cons, List.length_nil] at h1 ⊢; exact h1)), ?_⟩
        simp [intOf]
        omega
      )
end Go.Proofs.Ythhdpfgepjmgkaa.Dj
