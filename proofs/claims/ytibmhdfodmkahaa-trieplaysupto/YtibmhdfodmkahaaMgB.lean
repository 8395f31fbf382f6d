/- A fork, in the law's lists. The book that a stir makes, in its box. A round of triePlay: kind 7. A round of triePlay: kind 9. -/
import Derived.Test.YtibmhdfodmkahaaMgA
namespace Go.Proofs.Ytibmhdfodmkahaa.Tu
open Go.ChangeShapes Go.WideShapes Go.ChangeAt Go.RowKit Go.Joins Go.Proofs.Ytibmhdfodmkahaa.PM Go.Proofs.Ytibmhdfodmkahaa.TrM Go.Proofs.Ytibmhdfodmkahaa.Ask Go.Proofs.Ytibmhdfodmkahaa.Tri
set_option linter.unusedVariables false

/-- a list's own block is the old one, or a new one -/
def Nw (v v' : Value) (nb : Nat) : Prop := v'.ownBlock = v.ownBlock ∨ ∃ g, v'.ownBlock = some g ∧ nb < g
theorem get_app {α : Type} (l : List α) (x : α) (i : Nat) (h : i < (l ++ [x]).length) : (∃ h2 : i < l.length, (l ++ [x])[i] = l[i]) ∨ (i = l.length ∧ (l ++ [x])[i] = x) := by
  by_cases e : i < l.length
  · exact .inl ⟨e, List.getElem_append_left e⟩
  · have : i = l.length := by rw [List.length_append, List.length_singleton] at h; omega
    subst this
    exact .inr ⟨rfl, by simp⟩
theorem St.fork {N : Nat} {w : World} {K : List (Int × Int)} {ts : List Tr} {bts : List Nat} {bks : List Bs} {vt vb v3 v4 : Value} {wD X : World} {nb : Nat} {T : Tr} {pt : Option Addr} {x : Bs} (h : St N w K ts ts bts bks vt vb wD) (hnb : wD.heap.size = nb) (hT : Gd K T)
    (hnew : Holds (fun b => okL bts vt vb b ∧ b < nb) X nb T pt ((allT T).length : Int)) (hblk : ∀ b, b < nb → some b ≠ vt.ownBlock → some b ≠ vb.ownBlock → X.heap[b]? = wD.heap[b]?) (hbel : Below N wD X) (ho3 : Ge.OwnL EP N X v3 (bts ++ [nb])) (ho4 : Ge.OwnL EB N X v4 (bks ++ [x]))
    (h3 : Nw vt v3 nb) (h4 : Nw vb v4 nb) (hne : ∀ g, v3.ownBlock = some g → v4.ownBlock ≠ some g) (hx : Bo (okL bts vt vb) wD x (allT T)) (h12 : ts.length < 12) : St N w K (ts ++ [T]) (ts ++ [T]) (bts ++ [nb]) (bks ++ [x]) v3 v4 X := by
  have hs : wD.heap.size ≤ X.heap.size := hbel.size
  have hnw : ∀ {v v' : Value} {b : Nat}, Nw v v' nb → b < nb → some b ≠ v.ownBlock → some b ≠ v'.ownBlock := by
    intro v v' b h1 hb h2 e
    rcases h1 with h1 | ⟨g, h1, h3⟩
    · rw [h1] at e; exact h2 e
    · rw [h1] at e; cases e; omega
  have hok : ∀ b, okL bts vt vb b → b < nb → okL (bts ++ [nb]) v3 v4 b := fun b hb hl =>
    ⟨fun hm => by
      rcases List.mem_append.1 hm with hm | hm
      · exact hb.1 hm
      · rw [List.mem_singleton] at hm; omega, hnw h3 hl hb.2.1, hnw h4 hl hb.2.2⟩
  have hkk : ∀ b, okL bts vt vb b → b < wD.heap.size → okL (bts ++ [nb]) v3 v4 b ∧ X.heap[b]? = wD.heap[b]? := fun b hb hl => ⟨hok b hb (by omega), hblk b (by omega) hb.2.1 hb.2.2⟩
  exact
  { l1 := by rw [List.length_append, List.length_append, h.l1]; rfl
    l2 := by rw [List.length_append, List.length_append, h.l2]; rfl
    l3 := rfl
    pos := by rw [List.length_append]; exact Nat.lt_of_lt_of_le h.pos (Nat.le_add_right _ _)
    few := by rw [List.length_append, List.length_singleton]; omega
    ot := ho3
    ob := ho4
    gt := fun t ht => by
      rcases List.mem_append.1 ht with ht | ht
      · exact h.gt t ht
      · rw [List.mem_singleton] at ht; subst ht; exact hT
    gb := fun t ht => by
      rcases List.mem_append.1 ht with ht | ht
      · exact h.gt t ht
      · rw [List.mem_singleton] at ht; subst ht; exact hT
    ho := fun i h1 h2 => by
      rcases get_app bts nb i h1 with ⟨i1, e1⟩ | ⟨i1, e1⟩
      · have i2 : i < ts.length := by rw [← h.l1]; exact i1
        have hap := h.ap bts[i] (List.getElem_mem i1)
        have hlt := (h.ho i i1 i2).lt
        rw [e1, List.getElem_append_left i2]
        exact (h.ho i i1 i2).keep hs (hblk _ (by omega) hap.2.1 hap.2.2) hkk
      · have i2 : i = ts.length := by rw [← h.l1]; exact i1
        subst i2
        rw [e1, List.getElem_append_right (Nat.le_refl _)]
        simp only [Nat.sub_self, List.getElem_cons_zero]
        exact ⟨pt, Holds.keep hnew (Nat.le_refl _) rfl (fun b hb _ => ⟨hok b hb.1 hb.2, rfl⟩)⟩
    bo := fun i h1 h2 => by
      rcases get_app bks x i h1 with ⟨i1, e1⟩ | ⟨i1, e1⟩
      · have i2 : i < ts.length := by rw [← h.l2]; exact i1
        rw [e1, List.getElem_append_left i2]
        exact (h.bo i i1 i2).keep hs hkk
      · have i2 : i = ts.length := by rw [← h.l2]; exact i1
        subst i2
        rw [e1, List.getElem_append_right (Nat.le_refl _)]
        simp only [Nat.sub_self, List.getElem_cons_zero]
        exact hx.keep hs hkk
    nd := by
      rw [List.nodup_append]
      refine ⟨h.nd, by simp, fun a ha b hb e => ?_⟩
      rw [List.mem_singleton] at hb
      have := h.lt ha
      omega
    ap := fun b hb => by
      rcases List.mem_append.1 hb with hb | hb
      · have hap := h.ap b hb
        have hlt := h.lt hb
        exact ⟨hap.1, hnw h3 (by omega) hap.2.1, hnw h4 (by omega) hap.2.2⟩
      · rw [List.mem_singleton] at hb
        subst hb
        refine ⟨by have := h.nsz; omega, ?_, ?_⟩
        · intro e
          rcases h3 with h3 | ⟨g, h3, h5⟩
          · rw [h3] at e; have := (h.ot.row.lt b e.symm).2; omega
          · rw [h3] at e; cases e; omega
        · intro e
          rcases h4 with h4 | ⟨g, h4, h5⟩
          · rw [h4] at e; have := (h.ob.row.lt b e.symm).2; omega
          · rw [h4] at e; cases e; omega
    ne := hne
    bel := h.bel.trans hbel
    nsz := Nat.le_trans h.nsz hs }
/-- one item is appended, in a region that draws -/
theorem step_app1 {α : Type} {o : Oper} {a : Act} {Q : Exit → Act → World → Prop} {K : Act → World → Prop} {c : Bool} {E0 : Prop} (E : Ge.El α) (s x : Operand) (t : TypeId) (htt : t = E.t)
    (ho : o.op = .call { callee := .builtin .append, args := #[s, x], argTypes := #[t, t] }) (N : Nat) (v : Value) (xs : List α) (y : α) (hbig : xs.length + 1 ≤ 1099511627775) (W : World) (hs : a.eval s = v) (hown : Ge.OwnL E N W v xs) (H : Nat)
    (hx : a.eval x = .slice (some ⟨H, 0, none⟩) 1 1) (hH : W.heap[H]? = some (Obj.cells (E.enc y).toArray E.e)) (hN : N ≤ W.heap.size) (hc : c = true)
    (h : ∀ v' w', Hid (Ge.OwnL E N w' v' (xs ++ [y])) → Hid (W.grownBy w' v.ownBlock) → Hid (v'.ownBlock = v.ownBlock ∨ v'.ownBlock = some W.heap.size) → K (a.put o.dst v') w') :
    if c = true then Oper.wp Try.prog o a W K Q else E0 := by
  subst htt
  rw [if_pos hc]
  obtain ⟨i0, hi, hz0, hz1, hz2⟩ := Ge.info_of E.hi
  have e1 : E.cs [y] = E.enc y := by simp [Ge.El.cs]
  obtain ⟨v', w', hr, h2, h3, h4, h5⟩ := run_append_own_at (P := Try.prog) W N E.t o.type E.e i0 E.z E.k E.bytes E.ht hi hz0 hz1 hz2 E.hz E.hk v xs.length (E.cs xs) hown.row ⟨H, 0, none⟩ 1 1 (E.cs [y]) (by rw [Ge.cs_len]; rfl) (by
    intro j u hj
    rw [e1] at hj
    rw [Addr.add_lit, Nat.zero_add]
    simp [World.cell?, hH, hj]) (Ge.cs_one E _) (by unfold maxLen; omega) (Nat.le_trans (Nat.mul_le_mul_left _ E.hb) (by omega)) hN
  unfold Oper.wp execOp
  simp only [ho, resolve, invoke, builtin, Sem.run_bind, Sem.run_pure, Result.andThen_ok, List.map_toArray, List.map_cons, List.map_nil, hs, hx, hr]
  exact h v' w' ⟨by rw [Ge.cs_app, List.length_append]; exact h2⟩ h3 h5
theorem pbuild_run {o : Oper} (x : Operand) (ho : o.op = .buildSlice 50 1 #[(0, x)]) {ρ : Operand → Value} {b : Nat} {W : World} (hx : ρ x = .pointer (some ⟨b, 0, none⟩)) : (execOp ρ o).run Try.prog W = .ok (.value (.slice (some ⟨W.heap.size, 0, none⟩) 1 1)) (W.alloc (Obj.cells (EP.enc b).toArray EP.e)) := by
  unfold execOp
  rw [ho]
  simp [go_sem, hx, EP]
theorem bbuild_run {o : Oper} (x : Operand) (ho : o.op = .buildSlice 51 1 #[(0, x)]) {ρ : Operand → Value} {y : Bs} {W : World} (hx : ρ x = .agg #[.slice y.1 y.2.1 y.2.2]) : (execOp ρ o).run Try.prog W = .ok (.value (.slice (some ⟨W.heap.size, 0, none⟩) 1 1)) (W.alloc (Obj.cells (EB.enc y).toArray EB.e)) := by
  unfold execOp
  rw [ho]
  simp [go_sem, hx, EB]
theorem build_step {α : Type} (E : Ge.El α) {o : Oper} {a : Act} {W : World} {K : Act → World → Prop} {Q : Exit → Act → World → Prop} {c : Bool} {E0 : Prop} {y : α} (hr : (execOp a.eval o).run Try.prog W = .ok (.value (.slice (some ⟨W.heap.size, 0, none⟩) 1 1)) (W.alloc (Obj.cells (E.enc y).toArray E.e))) (hc : c = true)
    (k : ∀ m W', Hid (W.heap.size = m) → Hid (W'.heap[m]? = some (Obj.cells (E.enc y).toArray E.e)) → Hid (Below W.heap.size W W') → K (a.put o.dst (.slice (some ⟨m, 0, none⟩) 1 1)) W') : if c = true then Oper.wp Try.prog o a W K Q else E0 :=
  Ge.step_run hc hr (k _ _ rfl (World.alloc_heap_new W _) ((Below.refl _ W).alloc (Nat.le_refl _) _))
/-- between: all but the two lists stays -/
structure Fx (N : Nat) (wE : World) (vt vb : Value) (X : World) : Prop where
  bel : Below N wE X
  blk : ∀ b, b < wE.heap.size → some b ≠ vt.ownBlock → some b ≠ vb.ownBlock → X.heap[b]? = wE.heap[b]?
theorem Fx.below {N : Nat} {wE X X' : World} {vt vb : Value} (h : Fx N wE vt vb X) (hN : N ≤ X.heap.size) (hb : Below X.heap.size X X') : Fx N wE vt vb X' :=
  ⟨h.bel.trans (hb.mono hN), fun b hl h1 h2 => (hb.block b (by have := h.bel.size; omega)).trans (h.blk b hl h1 h2)⟩
theorem Fx.app {N : Nat} {wE X X' : World} {vt vb u : Value} (h : Fx N wE vt vb X) (hN : N ≤ X.heap.size) (hg : X.grownBy X' u.ownBlock) (hu : ∀ g, u.ownBlock = some g → N ≤ g) (hv : ∀ b, b < wE.heap.size → some b ≠ vt.ownBlock → some b ≠ vb.ownBlock → some b ≠ u.ownBlock) : Fx N wE vt vb X' :=
  ⟨h.bel.trans ⟨hg.os, hg.tape, hg.output, hg.size, fun k hk => hg.block k (by omega) (fun e => by have := hu k e.symm; omega)⟩, fun b hl h1 h2 => (hg.block b (by have := h.bel.size; omega) (hv b hl h1 h2)).trans (h.blk b hl h1 h2)⟩
end Go.Proofs.Ytibmhdfodmkahaa.Tu
namespace Go.Proofs.Ytibmhdfodmkahaa.Tu
open Go.ChangeShapes Go.WideShapes Go.ChangeAt Go.RowKit Go.Joins Go.Proofs.Ytibmhdfodmkahaa.PM Go.Proofs.Ytibmhdfodmkahaa.TrM Go.Proofs.Ytibmhdfodmkahaa.Ask Go.Proofs.Ytibmhdfodmkahaa.Tri
set_option linter.unusedVariables false

structure Ci (okp : Nat → Prop) (wL : World) (m : Nat) (l : List (Int × Int × Int)) (W : World) : Prop where
  bel : Below wL.heap.size wL W
  cell : ∃ ca cc, W.cell? ⟨m, 0, none⟩ = some (.slice ca l.length cc) ∧ W.frozen? ⟨m, 0, none⟩ = false ∧ Arr3 W ca l ∧ (0 < l.length → ∀ b o, ca = some ⟨b, o, none⟩ → okp b ∧ b ≠ m)
  lt : m < W.heap.size
theorem Ci.below {okp : Nat → Prop} {wL : World} {m : Nat} {l : List (Int × Int × Int)} {W W' : World} (h : Ci okp wL m l W) (hb : Below W.heap.size W W') : Ci okp wL m l W' := by
  obtain ⟨ca, cc, h1, h2, h3, h4⟩ := h.cell
  exact ⟨h.bel.trans (hb.mono h.bel.size), ⟨ca, cc, cell_bel h1 hb, (frozen_bel h1 hb).trans h2, h3.bel hb, h4⟩, Nat.lt_of_lt_of_le h.lt hb.size⟩
theorem Ci.store {okp : Nat → Prop} {wL : World} {m : Nat} {l l' : List (Int × Int × Int)} {W : World} {ca : Option Addr} {cc : Nat} (h : Ci okp wL m l W) (hm : wL.heap.size ≤ m) (ha : Arr3 W ca l') (hok : 0 < l'.length → ∀ b o, ca = some ⟨b, o, none⟩ → okp b ∧ b ≠ m) : Ci okp wL m l' (W.setCell ⟨m, 0, none⟩ (.slice ca l'.length cc)) := by
  obtain ⟨ca0, cc0, h1, h2, h3, h4⟩ := h.cell
  refine ⟨h.bel.setCell (p := ⟨m, 0, none⟩) hm _, ⟨ca, cc, World.cell?_setCell_same' _ _ _ (by rw [h1]; rfl), by rw [World.frozen?_setCell]; exact h2, ?_, hok⟩, by simpa using h.lt⟩
  exact arr_keep ha (by simp) (fun h0 b o e _ => Below.heap_setCell _ _ _ _ (hok h0 b o e).2)
theorem Ci.start {okp : Nat → Prop} {wL W : World} {m : Nat} {l : List (Int × Int × Int)} {ca : Option Addr} {cc : Nat} (hW : wL.alloc (Obj.cells #[.slice ca l.length cc] 28) = W) (hm : wL.heap.size = m) (ha : Arr3 wL ca l) (hok : 0 < l.length → ∀ b o, ca = some ⟨b, o, none⟩ → okp b) : Ci okp wL m l W := by
  subst hW hm
  refine ⟨(Below.refl _ wL).alloc (Nat.le_refl _) _, ⟨ca, cc, by simp, by simp, ha.bel ((Below.refl _ wL).alloc (Nat.le_refl _) _), fun h0 b o e => ⟨hok h0 b o e, ?_⟩⟩, by simp⟩
  obtain ⟨b', o', e', hlt, -⟩ := ha.cells 0 h0
  rw [e] at e'; cases e'; omega
end Go.Proofs.Ytibmhdfodmkahaa.Tu
namespace Go.Proofs.Ytibmhdfodmkahaa.Tu
open Go.ChangeShapes Go.WideShapes Go.ChangeAt Go.RowKit Go.Joins Go.Proofs.Ytibmhdfodmkahaa.PM Go.Proofs.Ytibmhdfodmkahaa.TrM Go.Proofs.Ytibmhdfodmkahaa.Ask Go.Proofs.Ytibmhdfodmkahaa.Tri
set_option linter.unusedVariables false
set_option linter.unusedSimpArgs false

set_option maxRecDepth 1000000 in
set_option maxHeartbeats 16000000 in
theorem case_7 {w wr : World} {ss : List Sp} {L k cap : Nat} {va : Option Addr} {ts : List Tr} {bts : List Nat} {bks : List Bs} {gt gb n cT cb : Nat} {U : Nat → Value} (hL : ss.length = L) (hbig : L ≤ 1048576) (hk : k < L) (hkd : k < ss.length) (H : Ge.Lst ES w va ss) (s : Sp) (hs : ss[k] = s) (hok : SpOk s)
    (hst : St w.heap.size w (keys (ss.take k)) ts ts bts bks (.slice (some ⟨gt, 0, none⟩) n cT) (.slice (some ⟨gb, 0, none⟩) n cb) wr) (hn : ts.length = n) (hkind : s.kind = 7) :
    Code.wp Try.prog body (Exit.then (fun a' w'' => WI w ss va L cap a' w'' ∧ Wmu L a' w'' < L - k) (QX w ss va L cap)) ⟨fr U va L cap (.slice (some ⟨gt, 0, none⟩) n cT) (.slice (some ⟨gb, 0, none⟩) n cb) (.int .i64 (k : Int)), []⟩ wr := by
  have HL : Hid (ss.length = L) := hL
  have HN : Hid (ts.length = n) := hn
  have HST : Hid (St w.heap.size w (keys (ss.take k)) ts ts bts bks (.slice (some ⟨gt, 0, none⟩) n cT) (.slice (some ⟨gb, 0, none⟩) n cb) wr) := hst
  obtain ⟨b, o, e, hbl, hc⟩ := (H.bel (hst.bel.mono (by have := hst.nsz; omega))).cells k hkd
  subst e
  have c0 := hc 0 (by decide)
  have c1 := hc 1 (by decide)
  have c2 := hc 2 (by decide)
  have c3 := hc 3 (by decide)
  have c4 := hc 4 (by decide)
  have c5 := hc 5 (by decide)
  have c6 := hc 6 (by decide)
  have HS : Hid (ss[k] = s) := hs
  rw [hs] at c0 c1 c2 c3 c4 c5 c6
  simp only [ES, spL, List.getElem?_cons_zero, List.getElem?_cons_succ, Nat.add_zero] at c0 c1 c2 c3 c4 c5 c6
  have hkk : (k : Int) < L := by omega
  have kk0 : (0 : Int) ≤ k := by omega
  clear hc hs hst hn hL
  obtain ⟨kd, tr, sa, sn, sv, sf, sd⟩ := s
  obtain ⟨hoa, hod, hot⟩ := hok
  dsimp only at hkind hoa hod hot c0 c1 c2 c3 c4 c5 c6
  have HKD : Hid (kd = 7) := hkind
  clear hkind
  obtain ⟨tx, htx⟩ : ∃ tx : Int, tx = if tr < 0 then 0 else tr := ⟨_, rfl⟩
  have htx0 : 0 ≤ tx ∧ tx < 9223372036854775808 := by rw [htx]; split <;> omega
  have HTX : Hid (tx = if tr < 0 then 0 else tr) := htx
  clear htx
  conv => arg 2; whnf
  unfold fr
  go_upto_region 9 with fail
  obtain ⟨wA, hwA⟩ : ∃ wA, wr.alloc (Obj.cells #[.int .i64 kd, .int .i64 tr, .int .u32 sa, .int .i64 sn, .int .i64 sv, .int .i64 sf, .int .u32 sd] 35) = wA := ⟨_, rfl⟩
  have HWA : Hid (Below wr.heap.size wr wA ∧ wA.heap.size = wr.heap.size + 1 ∧ Bx7 wr.heap.size ⟨kd, tr, sa, sn, sv, sf, sd⟩ wA ∧ wA.cell? ⟨wr.heap.size, 1, none⟩ = some (.int .i64 tr) ∧ wA.frozen? ⟨wr.heap.size, 1, none⟩ = false) := by
    rw [← hwA]
    exact ⟨(Below.refl _ wr).alloc (Nat.le_refl _) _, by simp, ⟨by simp, by simp, by simp, by simp, by simp, by simp, by simp⟩, by simp, by simp⟩
  rw [hwA]
  clear hwA c0 c1 c2 c3 c4 c5 c6 hbl
  obtain ⟨bs, hbs⟩ : ∃ bs, wr.heap.size = bs := ⟨_, rfl⟩
  have HBS : Hid (wr.heap.size = bs) := hbs
  rw [hbs] at HWA ⊢
  clear hbs
  obtain ⟨hb, hsz, hbx, ct, cf⟩ := HWA.out
  go_upto_if 55 with fail
  go_cut [] from 56 to 56 (fun wx => Bx7 bs ⟨kd, tr, sa, sn, sv, sf, sd⟩ wx ∧ wx.cell? ⟨bs, 1, none⟩ = some (.int .i64 tx) ∧ Below bs wr wx ∧ wx.heap.size = bs + 1)
  case first =>
    by_cases htr : tr < 0
    · have e : tx = 0 := by rw [HTX.out, if_pos htr]
      go_wp2_with fail
      go_meet
      exact ⟨⟨by simp [go_sem, hbx.k], by simp [go_sem, hbx.a], by simp [go_sem, hbx.n], by simp [go_sem, hbx.v], by simp [go_sem, hbx.f], by simp [go_sem, hbx.d], by simpa using hbx.lt⟩, by rw [e]; simp [go_sem, ct], hb.setCell (p := ⟨bs, 1, none⟩) (Nat.le_refl _) _, by simpa using hsz⟩
    · have e : tx = tr := by rw [HTX.out, if_neg htr]
      go_wp2_with fail
      go_meet
      exact ⟨hbx, by rw [e]; exact ct, hb, hsz⟩
  case rest =>
    obtain ⟨hbx', ct', hb', hsz'⟩ := hcut
    have HSTc : Hid (St w.heap.size w (keys (ss.take (k + 1))) ts ts bts bks (.slice (some ⟨gt, 0, none⟩) n cT) (.slice (some ⟨gb, 0, none⟩) n cb) wc) := (HST.out.below (by rw [HBS.out]; exact hb')).keys hkd
    have HBX : Hid (Bx7 bs ⟨kd, tr, sa, sn, sv, sf, sd⟩ wc) := hbx'
    have HSZ : Hid (wc.heap.size = bs + 1) := hsz'
    have HGB : Hid (gt < bs ∧ gb < bs) := by rw [← HBS.out]; exact ⟨(HST.out.ot.row.lt gt rfl).2, (HST.out.ob.row.lt gb rfl).2⟩
    have HLT : Hid (∀ b ∈ bts, b < bs) := fun b hb => by rw [← HBS.out]; exact HST.out.lt hb
    clear hbx' hb' HST HWA hb hsz hbx ct cf HTX
    have hn0 : 0 < n := by rw [← HN.out]; exact HSTc.out.pos
    have hn12 : n ≤ 12 := by rw [← HN.out]; exact HSTc.out.few
    obtain ⟨q, hq⟩ : ∃ q : Nat, tx.tmod (n : Int) = (q : Int) := ⟨(tx.tmod (n : Int)).toNat, by rw [Int.toNat_of_nonneg (Int.tmod_nonneg _ htx0.1)]⟩
    have hqn : q < n := by
      have := Int.tmod_lt_of_pos tx (b := (n : Int)) (by omega)
      omega
    have hqi : (q : Int) < n := by omega
    have hq0 : (0 : Int) ≤ q := by omega
    have hni : (0 : Int) < n := by omega
    have hqb : q < bts.length := by rw [HSTc.out.l1, HN.out]; exact hqn
    have hqk : q < bks.length := by rw [HSTc.out.l2, HN.out]; exact hqn
    have hqt : q < ts.length := by rw [HN.out]; exact hqn
    obtain ⟨bt, hbt⟩ : ∃ bt, bts[q] = bt := ⟨_, rfl⟩
    obtain ⟨bk, hbk⟩ : ∃ bk, bks[q] = bk := ⟨_, rfl⟩
    have HBT : Hid (bts[q] = bt) := hbt
    have HBK : Hid (bks[q] = bk) := hbk
    have hbtb : bt < bs := by rw [← hbt]; exact HLT.out _ (List.getElem_mem hqb)
    have d0 : wc.cell? ⟨gt, q, none⟩ = some (.pointer (some ⟨bt, 0, none⟩)) := by
      have := HSTc.out.ot.at0.1 q hqb 0 (by decide)
      rw [hbt] at this; simpa [EP] using this
    have d1 : wc.cell? ⟨gb, q, none⟩ = some (.slice bk.1 bk.2.1 bk.2.2) := by
      have := HSTc.out.ob.at0.1 q hqk 0 (by decide)
      rw [hbk] at this; simpa [EB] using this
    have d0a : ∀ ob, (wc.alloc ob).cell? ⟨gt, q, none⟩ = some (.pointer (some ⟨bt, 0, none⟩)) := fun ob => cell_bel d0 ((Below.refl _ wc).alloc (Nat.le_refl _) _)
    have d1a : ∀ ob, (wc.alloc ob).cell? ⟨gb, q, none⟩ = some (.slice bk.1 bk.2.1 bk.2.2) := fun ob => cell_bel d1 ((Below.refl _ wc).alloc (Nat.le_refl _) _)
    clear hbt hbk
    go_wp2_with fail
    go_region
    go_upto_region 14 with fail
    obtain ⟨bka, bkl, bkc⟩ := bk
    dsimp only
    obtain ⟨wD, hwD⟩ : ∃ wD, (wc.alloc (Obj.cells #[.slice bka bkl bkc] 28)).drew = wD := ⟨_, rfl⟩
    have hbD : Below wc.heap.size wc wD := by rw [← hwD]; exact ((Below.refl _ wc).alloc (Nat.le_refl _) _).drew
    have HBC : Hid (wD.cell? ⟨bs + 1, 0, none⟩ = some (.slice bka bkl bkc) ∧ bs + 1 < wD.heap.size) := by
      rw [← hwD, ← HSZ.out]
      exact ⟨by simp [go_sem], by simp⟩
    have HSD : Hid (St w.heap.size w (keys (ss.take (k + 1))) ts ts bts bks (.slice (some ⟨gt, 0, none⟩) n cT) (.slice (some ⟨gb, 0, none⟩) n cb) wD) := HSTc.out.below hbD
    have HBD : Hid (Bx7 bs ⟨kd, tr, sa, sn, sv, sf, sd⟩ wD) := HBX.out.below hbD
    have HC1 : Hid (wD.cell? ⟨bs, 1, none⟩ = some (.int .i64 tx)) := cell_bel ct' hbD
    first | rw [hwD] | rw [HSZ.out, hwD]
    clear hwD hbD HBX HSTc HSZ d0 d1 d0a d1a ct'
    obtain ⟨T, hT⟩ : ∃ T, ts[q] = T := ⟨_, rfl⟩
    have HT : Hid (ts[q] = T) := hT
    have HH : Hid (HoldsN (okL bts (.slice (some ⟨gt, 0, none⟩) n cT) (.slice (some ⟨gb, 0, none⟩) n cb)) wD bt T) := by have := HSD.out.ho q hqb hqt; rw [hT, HBT.out] at this; exact this
    have HBO : Hid (Bo (okL bts (.slice (some ⟨gt, 0, none⟩) n cT) (.slice (some ⟨gb, 0, none⟩) n cb)) wD (bka, bkl, bkc) (allT T)) := by have := HSD.out.bo q hqk hqt; rw [hT, HBK.out] at this; exact this
    have HG : Hid (Gd (keys (ss.take (k + 1))) T) := by rw [← hT]; exact HSD.out.gt _ (List.getElem_mem hqt)
    have HK1 : Hid ((keys (ss.take (k + 1))).length ≤ 1099511627776) := keys_le hk hbig
    have hkl : bkl = (allT T).length := HBO.out.len
    have hlen : (allT T).length ≤ 1099511627776 := Nat.le_trans HG.out.len HK1.out
    have e0 := HBD.out.k
    have e2 := HBD.out.a
    have e3 := HBD.out.n
    have e4 := HBD.out.v
    have e5 := HBD.out.f
    have e6 := HBD.out.d
    have e7 := HBC.out.1
    have hki : (k : Int) + 1 = ((k + 1 : Nat) : Int) := by omega
    have HKI : Hid ((k : Int) + 1 = ((k + 1 : Nat) : Int)) := hki
    dsimp only at e0 e2 e3 e4 e5 e6
    clear hT hki
    obtain rfl := HKD.out
    by_cases h12 : (n : Int) < 12
    case neg =>
      go_wp2_with fail
      rw [HKI.out]
      exact wi_end fr_mk (Nat.lt_succ_self k) hk ⟨ts, bts, bks, HSD.out⟩
    case pos =>
      obtain ⟨pt, hht⟩ := HH.out
      obtain ⟨nb, hnb⟩ : ∃ nb, wD.heap.size = nb := ⟨_, rfl⟩
      have HNB : Hid (wD.heap.size = nb) := hnb
      have HHT : Hid (Holds (fun b => okL bts (.slice (some ⟨gt, 0, none⟩) n cT) (.slice (some ⟨gb, 0, none⟩) n cb) b ∧ b < nb) wD bt T pt ((allT T).length : Int)) := by
        rw [← hnb]; exact ⟨hht.root, hht.count, hht.f0, hht.f1, hht.lt, hht.rep.lt⟩
      have HLB : Hid (bts.length = n) := HSD.out.l1.trans HN.out
      have HLK : Hid (bks.length = n) := HSD.out.l2.trans HN.out
      clear hht hnb
      go_wp2_with fail
      refine (fork_any _ bt T pt _ wD HHT.out).mono ?_
      rintro e wE ⟨rfl, hbE, hsE, hhE⟩
      rw [HNB.out] at hhE ⊢
      have HHE : Hid (Holds (fun b => okL bts (.slice (some ⟨gt, 0, none⟩) n cT) (.slice (some ⟨gb, 0, none⟩) n cb) b ∧ b < nb) wE nb T pt ((allT T).length : Int)) := hhE
      have HBE : Hid (Below wD.heap.size wD wE) := hbE
      have HSE : Hid (St w.heap.size w (keys (ss.take (k + 1))) ts ts bts bks (.slice (some ⟨gt, 0, none⟩) n cT) (.slice (some ⟨gb, 0, none⟩) n cb) wE) := HSD.out.below hbE
      have HGE : Hid ((gt < wE.heap.size ∧ gb < wE.heap.size) ∧ nb < wE.heap.size ∧ gb ≤ nb ∧ bs + 1 < wE.heap.size) := by
        have := HGB.out; have := HBC.out.2; have := HNB.out; exact ⟨⟨by omega, by omega⟩, by omega, by omega, by omega⟩
      have HNG : Hid (gt ≠ gb) := fun e => HSE.out.ne gt rfl (by rw [e]; rfl)
      have HNW : Hid (w.heap.size ≤ wE.heap.size) := HSE.out.nsz
      subst hkl
      have f7 := cell_bel e7 hbE
      have HCS : Hid (∀ X, Fx w.heap.size wE (.slice (some ⟨gt, 0, none⟩) n cT) (.slice (some ⟨gb, 0, none⟩) n cb) X → X.cell? ⟨bs + 1, 0, none⟩ = some (.slice bka (allT T).length bkc)) := fun X hX => (World.cell?_of_block (a := ⟨bs + 1, 0, none⟩) (hX.blk (bs + 1) (by have := HGE.out; omega) (fun e => by have h1 : bs + 1 = gt := Option.some.inj e; have := HGB.out; omega) (fun e => by have h1 : bs + 1 = gb := Option.some.inj e; have := HGB.out; omega))).trans f7
      have HV : Hid (Ge.OwnL EP w.heap.size wE.drew (.slice (some ⟨gt, 0, none⟩) n cT) bts) := HSE.out.ot.bel (bel_q wE 1)
      have HW : Hid (Ge.OwnL EB w.heap.size wE.drew (.slice (some ⟨gb, 0, none⟩) n cb) bks) := HSE.out.ob.bel (bel_q wE 1)
      have HF : Hid (Fx w.heap.size wE (.slice (some ⟨gt, 0, none⟩) n cT) (.slice (some ⟨gb, 0, none⟩) n cb) wE.drew) := ⟨(bel_q wE 1).mono HNW.out, fun _ _ _ _ => rfl⟩
      clear hbE hsE hhE e0 e2 e3 e4 e5 e6 e7 HHT HH
      obtain ⟨lt, hlt⟩ : ∃ lt, (allT T).length = lt := ⟨_, rfl⟩
      have HLT9 : Hid ((allT T).length = lt) := hlt
      rw [hlt] at HCS f7
      simp only [hlt]
      clear hlt
      go_wp2_with fail
      refine wp_region_held_drew (S := fun W => W.cell? ⟨bs + 1, 0, none⟩ = some (.slice bka lt bkc)) (by kernel_rfl) f7 (fun hHeld => ?_)
      generalize wE.drew = X0 at *
      refine wpAnyH_take (i := 0) (v := ?_) rfl (by kernel_rfl) (by kernel_rfl) (by kernel_rfl) (fun _ _ _ h => h) (Or.inl ⟨by rfl, ?_⟩) (by assumption) ?_
      case refine_2 => intro W hSw; go_simp; try rfl
      try simp only [Act.put, List.getElem_toArray, List.getElem_cons_zero, List.getElem_cons_succ, List.setIfInBounds_toArray, List.set_cons_zero, List.set_cons_succ]
      refine wpAnyH_take (i := 1) (v := ?_) rfl (by kernel_rfl) (by kernel_rfl) (by kernel_rfl) (fun _ _ _ h => h) (Or.inl ⟨by rfl, ?_⟩) (by assumption) ?_
      case refine_2 => intro W hSw; go_simp; try rfl
      try simp only [Act.put, List.getElem_toArray, List.getElem_cons_zero, List.getElem_cons_succ, List.setIfInBounds_toArray, List.set_cons_zero, List.set_cons_succ]
      refine wpAnyH_take (i := 4) (v := ?_) rfl (by kernel_rfl) (by kernel_rfl) (by kernel_rfl) (fun _ _ _ h => h) (Or.inl ⟨by rfl, ?_⟩) (by assumption) ?_
      case refine_2 => intro W hSw; go_simp; try rfl
      try simp only [Act.put, List.getElem_toArray, List.getElem_cons_zero, List.getElem_cons_succ, List.setIfInBounds_toArray, List.set_cons_zero, List.set_cons_succ]
      refine wpAnyH_take (i := 5) (v := .agg #[.slice bka lt bkc]) rfl (by kernel_rfl) (by kernel_rfl) (by kernel_rfl) (fun _ _ _ h => h) (Or.inl ⟨by rfl, ?_⟩) (by assumption) ?_
      case refine_1 => intro W hSw; have a7 := hSw; go_simp; try rfl
      try simp only [Act.put, List.getElem_toArray, List.getElem_cons_zero, List.getElem_cons_succ, List.setIfInBounds_toArray, List.set_cons_zero, List.set_cons_succ]
      clear f7
      refine wpAnyH_ready (rs := [2, 6]) (by kernel_rfl) (by simp) ?_
      refine AllReadyH.cons rfl (fun K hK => ?_) (AllReadyH.cons rfl (fun K hK => ?_) AllReadyH.nil)
      case' refine_2 =>
        refine build_step EB (y := (bka, lt, bkc)) (bbuild_run (.tmp 232) rfl rfl) rfl (fun m6 XA hm hc hb => ?_)
        have HFN : Hid (Fx w.heap.size wE (.slice (some ⟨gt, 0, none⟩) n cT) (.slice (some ⟨gb, 0, none⟩) n cb) XA) := HF.out.below (Nat.le_trans HNW.out HF.out.bel.size) hb.out
        have HM6 : Hid (wE.heap.size ≤ m6) := by show _ ≤ _; have := HF.out.bel.size; have := hm.out; omega
        try (have H2N : Hid (XA.heap[m2]? = some (Obj.cells (EP.enc nb).toArray EP.e)) := (hb.out.block m2 (Array.getElem?_eq_some_iff.1 H2.out).1).trans H2.out)
        try (have HVN : Hid (Ge.OwnL EP w.heap.size XA (.slice (some ⟨gt, 0, none⟩) n cT) bts) := HV.out.bel hb.out)
        try (have HWN : Hid (Ge.OwnL EB w.heap.size XA (.slice (some ⟨gb, 0, none⟩) n cb) bks) := HW.out.bel hb.out)
        try (have HV3N : Hid (Ge.OwnL EP w.heap.size XA v3 (bts ++ [nb])) := HV3.out.bel hb.out)
        refine hK.out _ _ (HCS.out _ HFN.out) (fun hHeld => ?_)
        clear hK K HF
        try clear H2
        try (have H2 : Hid (XA.heap[m2]? = some (Obj.cells (EP.enc nb).toArray EP.e)) := H2N.out)
        try clear H2N
        try clear HV
        try (have HV : Hid (Ge.OwnL EP w.heap.size XA (.slice (some ⟨gt, 0, none⟩) n cT) bts) := HVN.out)
        try clear HVN
        try clear HW
        try (have HW : Hid (Ge.OwnL EB w.heap.size XA (.slice (some ⟨gb, 0, none⟩) n cb) bks) := HWN.out)
        try clear HWN
        try clear HV3
        try (have HV3 : Hid (Ge.OwnL EP w.heap.size XA v3 (bts ++ [nb])) := HV3N.out)
        try clear HV3N
        have HF : Hid (Fx w.heap.size wE (.slice (some ⟨gt, 0, none⟩) n cT) (.slice (some ⟨gb, 0, none⟩) n cb) XA) := HFN.out
        clear HFN
        have H6 : Hid (XA.heap[m6]? = some (Obj.cells (EB.enc (bka, lt, bkc)).toArray EB.e)) := hc
        clear hm hc hb
        try simp only [Act.put, List.getElem_toArray, List.getElem_cons_zero, List.getElem_cons_succ, List.setIfInBounds_toArray, List.set_cons_zero, List.set_cons_succ]
        refine wpAnyH_ready (rs := [2]) (by kernel_rfl) (by simp) ?_
        refine AllReadyH.cons rfl (fun K hK => ?_) AllReadyH.nil
        refine build_step EP (y := nb) (pbuild_run (.tmp 228) rfl rfl) rfl (fun m2 XA hm hc hb => ?_)
        have HFN : Hid (Fx w.heap.size wE (.slice (some ⟨gt, 0, none⟩) n cT) (.slice (some ⟨gb, 0, none⟩) n cb) XA) := HF.out.below (Nat.le_trans HNW.out HF.out.bel.size) hb.out
        have HM2 : Hid (wE.heap.size ≤ m2) := by show _ ≤ _; have := HF.out.bel.size; have := hm.out; omega
        try (have H6N : Hid (XA.heap[m6]? = some (Obj.cells (EB.enc (bka, lt, bkc)).toArray EB.e)) := (hb.out.block m6 (Array.getElem?_eq_some_iff.1 H6.out).1).trans H6.out)
        try (have HVN : Hid (Ge.OwnL EP w.heap.size XA (.slice (some ⟨gt, 0, none⟩) n cT) bts) := HV.out.bel hb.out)
        try (have HWN : Hid (Ge.OwnL EB w.heap.size XA (.slice (some ⟨gb, 0, none⟩) n cb) bks) := HW.out.bel hb.out)
        refine hK.out _ _ (HCS.out _ HFN.out) (fun hHeld => ?_)
        clear hK K HF
        try clear H6
        try (have H6 : Hid (XA.heap[m6]? = some (Obj.cells (EB.enc (bka, lt, bkc)).toArray EB.e)) := H6N.out)
        try clear H6N
        try clear HV
        try (have HV : Hid (Ge.OwnL EP w.heap.size XA (.slice (some ⟨gt, 0, none⟩) n cT) bts) := HVN.out)
        try clear HVN
        try clear HW
        try (have HW : Hid (Ge.OwnL EB w.heap.size XA (.slice (some ⟨gb, 0, none⟩) n cb) bks) := HWN.out)
        try clear HWN
        have HF : Hid (Fx w.heap.size wE (.slice (some ⟨gt, 0, none⟩) n cT) (.slice (some ⟨gb, 0, none⟩) n cb) XA) := HFN.out
        clear HFN
        have H2 : Hid (XA.heap[m2]? = some (Obj.cells (EP.enc nb).toArray EP.e)) := hc
        clear hm hc hb
        try simp only [Act.put, List.getElem_toArray, List.getElem_cons_zero, List.getElem_cons_succ, List.setIfInBounds_toArray, List.set_cons_zero, List.set_cons_succ]
        refine wpAnyH_ready (rs := [3]) (by kernel_rfl) (by simp) ?_
        refine AllReadyH.cons rfl (fun K hK => ?_) AllReadyH.nil
        refine step_app1 EP (.tmp 227) (.tmp 229) _ rfl rfl w.heap.size (.slice (some ⟨gt, 0, none⟩) n cT) bts nb (by rw [HLB.out]; omega) _ rfl HV.out m2 rfl H2.out (Nat.le_trans HNW.out HF.out.bel.size) rfl (fun v3 XA hov hg hat => ?_)
        have HFN : Hid (Fx w.heap.size wE (.slice (some ⟨gt, 0, none⟩) n cT) (.slice (some ⟨gb, 0, none⟩) n cb) XA) := HF.out.app (Nat.le_trans HNW.out HF.out.bel.size) hg.out (fun g e => (HV.out.row.lt g e).1) (fun b _ h1 _ => h1)
        have HN3 : Hid (Nw (.slice (some ⟨gt, 0, none⟩) n cT) v3 nb) := hat.out.imp id (fun e => ⟨_, e, by have := HF.out.bel.size; have := HGE.out; omega⟩)
        try (have H6N : Hid (XA.heap[m6]? = some (Obj.cells (EB.enc (bka, lt, bkc)).toArray EB.e)) := (hg.out.block m6 (Array.getElem?_eq_some_iff.1 H6.out).1 (fun e => by have h1 : m6 = gt := Option.some.inj e; have := HM6.out; have := HGE.out; omega)).trans H6.out)
        try (have HWN : Hid (Ge.OwnL EB w.heap.size XA (.slice (some ⟨gb, 0, none⟩) n cb) bks) := HW.out.blk (fun g e => hg.out.block g (HW.out.row.lt g e).2 (fun e2 => by cases e; cases e2; exact HNG.out rfl)))
        refine hK.out _ _ (HCS.out _ HFN.out) (fun hHeld => ?_)
        clear hK K HF
        try clear H6
        try (have H6 : Hid (XA.heap[m6]? = some (Obj.cells (EB.enc (bka, lt, bkc)).toArray EB.e)) := H6N.out)
        try clear H6N
        try clear HW
        try (have HW : Hid (Ge.OwnL EB w.heap.size XA (.slice (some ⟨gb, 0, none⟩) n cb) bks) := HWN.out)
        try clear HWN
        have HF : Hid (Fx w.heap.size wE (.slice (some ⟨gt, 0, none⟩) n cT) (.slice (some ⟨gb, 0, none⟩) n cb) XA) := HFN.out
        clear HFN
        clear HV
        have HV3 : Hid (Ge.OwnL EP w.heap.size XA v3 (bts ++ [nb])) := hov
        clear hov hg hat H2
        try simp only [Act.put, List.getElem_toArray, List.getElem_cons_zero, List.getElem_cons_succ, List.setIfInBounds_toArray, List.set_cons_zero, List.set_cons_succ]
        refine wpAnyH_ready (rs := [7]) (by kernel_rfl) (by simp) ?_
        refine AllReadyH.cons rfl (fun K hK => ?_) AllReadyH.nil
        have HGB3 : Hid (some gb ≠ v3.ownBlock) := fun e => by
          rcases HN3.out with h | ⟨g, h, h2⟩
          · rw [h] at e; cases e; exact HNG.out rfl
          · rw [h] at e; cases e; have := HGE.out; omega
        refine step_app1 EB (.tmp 231) (.tmp 233) _ rfl rfl w.heap.size (.slice (some ⟨gb, 0, none⟩) n cb) bks (bka, lt, bkc) (by rw [HLK.out]; omega) _ rfl HW.out m6 rfl H6.out (Nat.le_trans HNW.out HF.out.bel.size) rfl (fun v4 XA hov hg hat => ?_)
        have HFN : Hid (Fx w.heap.size wE (.slice (some ⟨gt, 0, none⟩) n cT) (.slice (some ⟨gb, 0, none⟩) n cb) XA) := HF.out.app (Nat.le_trans HNW.out HF.out.bel.size) hg.out (fun g e => (HW.out.row.lt g e).1) (fun b _ _ h2 => h2)
        have HN4 : Hid (Nw (.slice (some ⟨gb, 0, none⟩) n cb) v4 nb) := hat.out.imp id (fun e => ⟨_, e, by have := HF.out.bel.size; have := HGE.out; omega⟩)
        have HNE4 : Hid (∀ g, v3.ownBlock = some g → v4.ownBlock ≠ some g) := fun g e e2 => by
          rcases hat.out with h | h
          · rw [h] at e2; exact HGB3.out (by rw [e, ← e2]; rfl)
          · rw [h] at e2; cases e2; have := (HV3.out.row.lt _ e).2; omega
        have HV3N : Hid (Ge.OwnL EP w.heap.size XA v3 (bts ++ [nb])) := HV3.out.blk (fun g e => hg.out.block g (HV3.out.row.lt g e).2 (fun e2 => HGB3.out (by rw [e, e2]; rfl)))
        refine hK.out _ _ (HCS.out _ HFN.out) (fun hHeld => ?_)
        clear hK K HF HV3 HW
        have HF : Hid (Fx w.heap.size wE (.slice (some ⟨gt, 0, none⟩) n cT) (.slice (some ⟨gb, 0, none⟩) n cb) XA) := HFN.out
        have HV3 : Hid (Ge.OwnL EP w.heap.size XA v3 (bts ++ [nb])) := HV3N.out
        have HW4 : Hid (Ge.OwnL EB w.heap.size XA v4 (bks ++ [(bka, lt, bkc)])) := hov
        clear hov hg hat H6 HFN HV3N
        try simp only [Act.put, List.getElem_toArray, List.getElem_cons_zero, List.getElem_cons_succ, List.setIfInBounds_toArray, List.set_cons_zero, List.set_cons_succ]
      case' refine_1 =>
        refine build_step EP (y := nb) (pbuild_run (.tmp 228) rfl rfl) rfl (fun m2 XA hm hc hb => ?_)
        have HFN : Hid (Fx w.heap.size wE (.slice (some ⟨gt, 0, none⟩) n cT) (.slice (some ⟨gb, 0, none⟩) n cb) XA) := HF.out.below (Nat.le_trans HNW.out HF.out.bel.size) hb.out
        have HM2 : Hid (wE.heap.size ≤ m2) := by show _ ≤ _; have := HF.out.bel.size; have := hm.out; omega
        try (have H6N : Hid (XA.heap[m6]? = some (Obj.cells (EB.enc (bka, lt, bkc)).toArray EB.e)) := (hb.out.block m6 (Array.getElem?_eq_some_iff.1 H6.out).1).trans H6.out)
        try (have HVN : Hid (Ge.OwnL EP w.heap.size XA (.slice (some ⟨gt, 0, none⟩) n cT) bts) := HV.out.bel hb.out)
        try (have HWN : Hid (Ge.OwnL EB w.heap.size XA (.slice (some ⟨gb, 0, none⟩) n cb) bks) := HW.out.bel hb.out)
        refine hK.out _ _ (HCS.out _ HFN.out) (fun hHeld => ?_)
        clear hK K HF
        try clear H6
        try (have H6 : Hid (XA.heap[m6]? = some (Obj.cells (EB.enc (bka, lt, bkc)).toArray EB.e)) := H6N.out)
        try clear H6N
        try clear HV
        try (have HV : Hid (Ge.OwnL EP w.heap.size XA (.slice (some ⟨gt, 0, none⟩) n cT) bts) := HVN.out)
        try clear HVN
        try clear HW
        try (have HW : Hid (Ge.OwnL EB w.heap.size XA (.slice (some ⟨gb, 0, none⟩) n cb) bks) := HWN.out)
        try clear HWN
        have HF : Hid (Fx w.heap.size wE (.slice (some ⟨gt, 0, none⟩) n cT) (.slice (some ⟨gb, 0, none⟩) n cb) XA) := HFN.out
        clear HFN
        have H2 : Hid (XA.heap[m2]? = some (Obj.cells (EP.enc nb).toArray EP.e)) := hc
        clear hm hc hb
        try simp only [Act.put, List.getElem_toArray, List.getElem_cons_zero, List.getElem_cons_succ, List.setIfInBounds_toArray, List.set_cons_zero, List.set_cons_succ]
        refine wpAnyH_ready (rs := [3, 6]) (by kernel_rfl) (by simp) ?_
        refine AllReadyH.cons rfl (fun K hK => ?_) (AllReadyH.cons rfl (fun K hK => ?_) AllReadyH.nil)
      case' refine_1.refine_1 =>
        refine step_app1 EP (.tmp 227) (.tmp 229) _ rfl rfl w.heap.size (.slice (some ⟨gt, 0, none⟩) n cT) bts nb (by rw [HLB.out]; omega) _ rfl HV.out m2 rfl H2.out (Nat.le_trans HNW.out HF.out.bel.size) rfl (fun v3 XA hov hg hat => ?_)
        have HFN : Hid (Fx w.heap.size wE (.slice (some ⟨gt, 0, none⟩) n cT) (.slice (some ⟨gb, 0, none⟩) n cb) XA) := HF.out.app (Nat.le_trans HNW.out HF.out.bel.size) hg.out (fun g e => (HV.out.row.lt g e).1) (fun b _ h1 _ => h1)
        have HN3 : Hid (Nw (.slice (some ⟨gt, 0, none⟩) n cT) v3 nb) := hat.out.imp id (fun e => ⟨_, e, by have := HF.out.bel.size; have := HGE.out; omega⟩)
        try (have H6N : Hid (XA.heap[m6]? = some (Obj.cells (EB.enc (bka, lt, bkc)).toArray EB.e)) := (hg.out.block m6 (Array.getElem?_eq_some_iff.1 H6.out).1 (fun e => by have h1 : m6 = gt := Option.some.inj e; have := HM6.out; have := HGE.out; omega)).trans H6.out)
        try (have HWN : Hid (Ge.OwnL EB w.heap.size XA (.slice (some ⟨gb, 0, none⟩) n cb) bks) := HW.out.blk (fun g e => hg.out.block g (HW.out.row.lt g e).2 (fun e2 => by cases e; cases e2; exact HNG.out rfl)))
        refine hK.out _ _ (HCS.out _ HFN.out) (fun hHeld => ?_)
        clear hK K HF
        try clear H6
        try (have H6 : Hid (XA.heap[m6]? = some (Obj.cells (EB.enc (bka, lt, bkc)).toArray EB.e)) := H6N.out)
        try clear H6N
        try clear HW
        try (have HW : Hid (Ge.OwnL EB w.heap.size XA (.slice (some ⟨gb, 0, none⟩) n cb) bks) := HWN.out)
        try clear HWN
        have HF : Hid (Fx w.heap.size wE (.slice (some ⟨gt, 0, none⟩) n cT) (.slice (some ⟨gb, 0, none⟩) n cb) XA) := HFN.out
        clear HFN
        clear HV
        have HV3 : Hid (Ge.OwnL EP w.heap.size XA v3 (bts ++ [nb])) := hov
        clear hov hg hat H2
        try simp only [Act.put, List.getElem_toArray, List.getElem_cons_zero, List.getElem_cons_succ, List.setIfInBounds_toArray, List.set_cons_zero, List.set_cons_succ]
        refine wpAnyH_ready (rs := [6]) (by kernel_rfl) (by simp) ?_
        refine AllReadyH.cons rfl (fun K hK => ?_) AllReadyH.nil
        refine build_step EB (y := (bka, lt, bkc)) (bbuild_run (.tmp 232) rfl rfl) rfl (fun m6 XA hm hc hb => ?_)
        have HFN : Hid (Fx w.heap.size wE (.slice (some ⟨gt, 0, none⟩) n cT) (.slice (some ⟨gb, 0, none⟩) n cb) XA) := HF.out.below (Nat.le_trans HNW.out HF.out.bel.size) hb.out
        have HM6 : Hid (wE.heap.size ≤ m6) := by show _ ≤ _; have := HF.out.bel.size; have := hm.out; omega
        try (have H2N : Hid (XA.heap[m2]? = some (Obj.cells (EP.enc nb).toArray EP.e)) := (hb.out.block m2 (Array.getElem?_eq_some_iff.1 H2.out).1).trans H2.out)
        try (have HVN : Hid (Ge.OwnL EP w.heap.size XA (.slice (some ⟨gt, 0, none⟩) n cT) bts) := HV.out.bel hb.out)
        try (have HWN : Hid (Ge.OwnL EB w.heap.size XA (.slice (some ⟨gb, 0, none⟩) n cb) bks) := HW.out.bel hb.out)
        try (have HV3N : Hid (Ge.OwnL EP w.heap.size XA v3 (bts ++ [nb])) := HV3.out.bel hb.out)
        refine hK.out _ _ (HCS.out _ HFN.out) (fun hHeld => ?_)
        clear hK K HF
        try clear H2
        try (have H2 : Hid (XA.heap[m2]? = some (Obj.cells (EP.enc nb).toArray EP.e)) := H2N.out)
        try clear H2N
        try clear HV
        try (have HV : Hid (Ge.OwnL EP w.heap.size XA (.slice (some ⟨gt, 0, none⟩) n cT) bts) := HVN.out)
        try clear HVN
        try clear HW
        try (have HW : Hid (Ge.OwnL EB w.heap.size XA (.slice (some ⟨gb, 0, none⟩) n cb) bks) := HWN.out)
        try clear HWN
        try clear HV3
        try (have HV3 : Hid (Ge.OwnL EP w.heap.size XA v3 (bts ++ [nb])) := HV3N.out)
        try clear HV3N
        have HF : Hid (Fx w.heap.size wE (.slice (some ⟨gt, 0, none⟩) n cT) (.slice (some ⟨gb, 0, none⟩) n cb) XA) := HFN.out
        clear HFN
        have H6 : Hid (XA.heap[m6]? = some (Obj.cells (EB.enc (bka, lt, bkc)).toArray EB.e)) := hc
        clear hm hc hb
        try simp only [Act.put, List.getElem_toArray, List.getElem_cons_zero, List.getElem_cons_succ, List.setIfInBounds_toArray, List.set_cons_zero, List.set_cons_succ]
        refine wpAnyH_ready (rs := [7]) (by kernel_rfl) (by simp) ?_
        refine AllReadyH.cons rfl (fun K hK => ?_) AllReadyH.nil
        have HGB3 : Hid (some gb ≠ v3.ownBlock) := fun e => by
          rcases HN3.out with h | ⟨g, h, h2⟩
          · rw [h] at e; cases e; exact HNG.out rfl
          · rw [h] at e; cases e; have := HGE.out; omega
        refine step_app1 EB (.tmp 231) (.tmp 233) _ rfl rfl w.heap.size (.slice (some ⟨gb, 0, none⟩) n cb) bks (bka, lt, bkc) (by rw [HLK.out]; omega) _ rfl HW.out m6 rfl H6.out (Nat.le_trans HNW.out HF.out.bel.size) rfl (fun v4 XA hov hg hat => ?_)
        have HFN : Hid (Fx w.heap.size wE (.slice (some ⟨gt, 0, none⟩) n cT) (.slice (some ⟨gb, 0, none⟩) n cb) XA) := HF.out.app (Nat.le_trans HNW.out HF.out.bel.size) hg.out (fun g e => (HW.out.row.lt g e).1) (fun b _ _ h2 => h2)
        have HN4 : Hid (Nw (.slice (some ⟨gb, 0, none⟩) n cb) v4 nb) := hat.out.imp id (fun e => ⟨_, e, by have := HF.out.bel.size; have := HGE.out; omega⟩)
        have HNE4 : Hid (∀ g, v3.ownBlock = some g → v4.ownBlock ≠ some g) := fun g e e2 => by
          rcases hat.out with h | h
          · rw [h] at e2; exact HGB3.out (by rw [e, ← e2]; rfl)
          · rw [h] at e2; cases e2; have := (HV3.out.row.lt _ e).2; omega
        have HV3N : Hid (Ge.OwnL EP w.heap.size XA v3 (bts ++ [nb])) := HV3.out.blk (fun g e => hg.out.block g (HV3.out.row.lt g e).2 (fun e2 => HGB3.out (by rw [e, e2]; rfl)))
        refine hK.out _ _ (HCS.out _ HFN.out) (fun hHeld => ?_)
        clear hK K HF HV3 HW
        have HF : Hid (Fx w.heap.size wE (.slice (some ⟨gt, 0, none⟩) n cT) (.slice (some ⟨gb, 0, none⟩) n cb) XA) := HFN.out
        have HV3 : Hid (Ge.OwnL EP w.heap.size XA v3 (bts ++ [nb])) := HV3N.out
        have HW4 : Hid (Ge.OwnL EB w.heap.size XA v4 (bks ++ [(bka, lt, bkc)])) := hov
        clear hov hg hat H6 HFN HV3N
        try simp only [Act.put, List.getElem_toArray, List.getElem_cons_zero, List.getElem_cons_succ, List.setIfInBounds_toArray, List.set_cons_zero, List.set_cons_succ]
      case' refine_1.refine_2 =>
        refine build_step EB (y := (bka, lt, bkc)) (bbuild_run (.tmp 232) rfl rfl) rfl (fun m6 XA hm hc hb => ?_)
        have HFN : Hid (Fx w.heap.size wE (.slice (some ⟨gt, 0, none⟩) n cT) (.slice (some ⟨gb, 0, none⟩) n cb) XA) := HF.out.below (Nat.le_trans HNW.out HF.out.bel.size) hb.out
        have HM6 : Hid (wE.heap.size ≤ m6) := by show _ ≤ _; have := HF.out.bel.size; have := hm.out; omega
        try (have H2N : Hid (XA.heap[m2]? = some (Obj.cells (EP.enc nb).toArray EP.e)) := (hb.out.block m2 (Array.getElem?_eq_some_iff.1 H2.out).1).trans H2.out)
        try (have HVN : Hid (Ge.OwnL EP w.heap.size XA (.slice (some ⟨gt, 0, none⟩) n cT) bts) := HV.out.bel hb.out)
        try (have HWN : Hid (Ge.OwnL EB w.heap.size XA (.slice (some ⟨gb, 0, none⟩) n cb) bks) := HW.out.bel hb.out)
        try (have HV3N : Hid (Ge.OwnL EP w.heap.size XA v3 (bts ++ [nb])) := HV3.out.bel hb.out)
        refine hK.out _ _ (HCS.out _ HFN.out) (fun hHeld => ?_)
        clear hK K HF
        try clear H2
        try (have H2 : Hid (XA.heap[m2]? = some (Obj.cells (EP.enc nb).toArray EP.e)) := H2N.out)
        try clear H2N
        try clear HV
        try (have HV : Hid (Ge.OwnL EP w.heap.size XA (.slice (some ⟨gt, 0, none⟩) n cT) bts) := HVN.out)
        try clear HVN
        try clear HW
        try (have HW : Hid (Ge.OwnL EB w.heap.size XA (.slice (some ⟨gb, 0, none⟩) n cb) bks) := HWN.out)
        try clear HWN
        try clear HV3
        try (have HV3 : Hid (Ge.OwnL EP w.heap.size XA v3 (bts ++ [nb])) := HV3N.out)
        try clear HV3N
        have HF : Hid (Fx w.heap.size wE (.slice (some ⟨gt, 0, none⟩) n cT) (.slice (some ⟨gb, 0, none⟩) n cb) XA) := HFN.out
        clear HFN
        have H6 : Hid (XA.heap[m6]? = some (Obj.cells (EB.enc (bka, lt, bkc)).toArray EB.e)) := hc
        clear hm hc hb
        try simp only [Act.put, List.getElem_toArray, List.getElem_cons_zero, List.getElem_cons_succ, List.setIfInBounds_toArray, List.set_cons_zero, List.set_cons_succ]
        refine wpAnyH_ready (rs := [3]) (by kernel_rfl) (by simp) ?_
        refine AllReadyH.cons rfl (fun K hK => ?_) AllReadyH.nil
        refine step_app1 EP (.tmp 227) (.tmp 229) _ rfl rfl w.heap.size (.slice (some ⟨gt, 0, none⟩) n cT) bts nb (by rw [HLB.out]; omega) _ rfl HV.out m2 rfl H2.out (Nat.le_trans HNW.out HF.out.bel.size) rfl (fun v3 XA hov hg hat => ?_)
        have HFN : Hid (Fx w.heap.size wE (.slice (some ⟨gt, 0, none⟩) n cT) (.slice (some ⟨gb, 0, none⟩) n cb) XA) := HF.out.app (Nat.le_trans HNW.out HF.out.bel.size) hg.out (fun g e => (HV.out.row.lt g e).1) (fun b _ h1 _ => h1)
        have HN3 : Hid (Nw (.slice (some ⟨gt, 0, none⟩) n cT) v3 nb) := hat.out.imp id (fun e => ⟨_, e, by have := HF.out.bel.size; have := HGE.out; omega⟩)
        try (have H6N : Hid (XA.heap[m6]? = some (Obj.cells (EB.enc (bka, lt, bkc)).toArray EB.e)) := (hg.out.block m6 (Array.getElem?_eq_some_iff.1 H6.out).1 (fun e => by have h1 : m6 = gt := Option.some.inj e; have := HM6.out; have := HGE.out; omega)).trans H6.out)
        try (have HWN : Hid (Ge.OwnL EB w.heap.size XA (.slice (some ⟨gb, 0, none⟩) n cb) bks) := HW.out.blk (fun g e => hg.out.block g (HW.out.row.lt g e).2 (fun e2 => by cases e; cases e2; exact HNG.out rfl)))
        refine hK.out _ _ (HCS.out _ HFN.out) (fun hHeld => ?_)
        clear hK K HF
        try clear H6
        try (have H6 : Hid (XA.heap[m6]? = some (Obj.cells (EB.enc (bka, lt, bkc)).toArray EB.e)) := H6N.out)
        try clear H6N
        try clear HW
        try (have HW : Hid (Ge.OwnL EB w.heap.size XA (.slice (some ⟨gb, 0, none⟩) n cb) bks) := HWN.out)
        try clear HWN
        have HF : Hid (Fx w.heap.size wE (.slice (some ⟨gt, 0, none⟩) n cT) (.slice (some ⟨gb, 0, none⟩) n cb) XA) := HFN.out
        clear HFN
        clear HV
        have HV3 : Hid (Ge.OwnL EP w.heap.size XA v3 (bts ++ [nb])) := hov
        clear hov hg hat H2
        try simp only [Act.put, List.getElem_toArray, List.getElem_cons_zero, List.getElem_cons_succ, List.setIfInBounds_toArray, List.set_cons_zero, List.set_cons_succ]
        refine wpAnyH_ready (rs := [7]) (by kernel_rfl) (by simp) ?_
        refine AllReadyH.cons rfl (fun K hK => ?_) AllReadyH.nil
        have HGB3 : Hid (some gb ≠ v3.ownBlock) := fun e => by
          rcases HN3.out with h | ⟨g, h, h2⟩
          · rw [h] at e; cases e; exact HNG.out rfl
          · rw [h] at e; cases e; have := HGE.out; omega
        refine step_app1 EB (.tmp 231) (.tmp 233) _ rfl rfl w.heap.size (.slice (some ⟨gb, 0, none⟩) n cb) bks (bka, lt, bkc) (by rw [HLK.out]; omega) _ rfl HW.out m6 rfl H6.out (Nat.le_trans HNW.out HF.out.bel.size) rfl (fun v4 XA hov hg hat => ?_)
        have HFN : Hid (Fx w.heap.size wE (.slice (some ⟨gt, 0, none⟩) n cT) (.slice (some ⟨gb, 0, none⟩) n cb) XA) := HF.out.app (Nat.le_trans HNW.out HF.out.bel.size) hg.out (fun g e => (HW.out.row.lt g e).1) (fun b _ _ h2 => h2)
        have HN4 : Hid (Nw (.slice (some ⟨gb, 0, none⟩) n cb) v4 nb) := hat.out.imp id (fun e => ⟨_, e, by have := HF.out.bel.size; have := HGE.out; omega⟩)
        have HNE4 : Hid (∀ g, v3.ownBlock = some g → v4.ownBlock ≠ some g) := fun g e e2 => by
          rcases hat.out with h | h
          · rw [h] at e2; exact HGB3.out (by rw [e, ← e2]; rfl)
          · rw [h] at e2; cases e2; have := (HV3.out.row.lt _ e).2; omega
        have HV3N : Hid (Ge.OwnL EP w.heap.size XA v3 (bts ++ [nb])) := HV3.out.blk (fun g e => hg.out.block g (HV3.out.row.lt g e).2 (fun e2 => HGB3.out (by rw [e, e2]; rfl)))
        refine hK.out _ _ (HCS.out _ HFN.out) (fun hHeld => ?_)
        clear hK K HF HV3 HW
        have HF : Hid (Fx w.heap.size wE (.slice (some ⟨gt, 0, none⟩) n cT) (.slice (some ⟨gb, 0, none⟩) n cb) XA) := HFN.out
        have HV3 : Hid (Ge.OwnL EP w.heap.size XA v3 (bts ++ [nb])) := HV3N.out
        have HW4 : Hid (Ge.OwnL EB w.heap.size XA v4 (bks ++ [(bka, lt, bkc)])) := hov
        clear hov hg hat H6 HFN HV3N
        try simp only [Act.put, List.getElem_toArray, List.getElem_cons_zero, List.getElem_cons_succ, List.setIfInBounds_toArray, List.set_cons_zero, List.set_cons_succ]
      all_goals
        refine wpAnyH_take (i := 8) (v := ?_) rfl (by kernel_rfl) (by kernel_rfl) (by kernel_rfl) (fun _ _ _ h => h) (Or.inl ⟨by rfl, ?_⟩) (by assumption) ?_
        case refine_2 => intro W hSw; go_simp; try rfl
        try simp only [Act.put, List.getElem_toArray, List.getElem_cons_zero, List.getElem_cons_succ, List.setIfInBounds_toArray, List.set_cons_zero, List.set_cons_succ]
        refine wpAnyH_take (i := 9) (v := ?_) rfl (by kernel_rfl) (by kernel_rfl) (by kernel_rfl) (fun _ _ _ h => h) (Or.inl ⟨by rfl, ?_⟩) (by assumption) ?_
        case refine_2 => intro W hSw; go_simp; try rfl
        try simp only [Act.put, List.getElem_toArray, List.getElem_cons_zero, List.getElem_cons_succ, List.setIfInBounds_toArray, List.set_cons_zero, List.set_cons_succ]
        refine wpAnyH_done (by kernel_rfl) ?_ _
        clear hHeld
        have hblk : ∀ b, b < nb → some b ≠ (Value.slice (some ⟨gt, 0, none⟩) n cT).ownBlock → some b ≠ (Value.slice (some ⟨gb, 0, none⟩) n cb).ownBlock → XA.heap[b]? = wD.heap[b]? := fun b hb h1 h2 => (HF.out.blk b (by have := HGE.out; omega) h1 h2).trans (HBE.out.block b (by rw [HNB.out]; exact hb))
        have hnw2 : Holds (fun b => okL bts (.slice (some ⟨gt, 0, none⟩) n cT) (.slice (some ⟨gb, 0, none⟩) n cb) b ∧ b < nb) XA nb T pt ((allT T).length : Int) := Holds.keep HHE.out HF.out.bel.size (HF.out.blk nb HGE.out.2.1 (fun e => by have h1 : nb = gt := Option.some.inj e; have := HGB.out; have := HNB.out; have := HBC.out.2; omega) (fun e => by have h1 : nb = gb := Option.some.inj e; have := HGB.out; have := HNB.out; have := HBC.out.2; omega)) (fun b hb hl => ⟨hb, HF.out.blk b hl hb.1.2.1 hb.1.2.2⟩)
        have HSX : Hid (St w.heap.size w (keys (ss.take (k + 1))) (ts ++ [T]) (ts ++ [T]) (bts ++ [nb]) (bks ++ [(bka, lt, bkc)]) v3 v4 XA) := HSD.out.fork HNB.out HG.out hnw2 hblk ((HBE.out.mono HSD.out.nsz).trans HF.out.bel) HV3.out HW4.out HN3.out HN4.out HNE4.out (by have h := HBO.out; rw [HLT9.out] at h; exact h) (by rw [HN.out]; omega)
        clear hblk hnw2 HF HV3 HW4 HN3 HN4 HNE4 HSD HSE HBO
        go_wp2_with fail
        rw [HKI.out]
        exact wi_end fr_mk (Nat.lt_succ_self k) hk ⟨_, _, _, HSX.out⟩
end Go.Proofs.Ytibmhdfodmkahaa.Tu
namespace Go.Proofs.Ytibmhdfodmkahaa.Tu
open Go.ChangeShapes Go.WideShapes Go.ChangeAt Go.RowKit Go.Joins Go.Proofs.Ytibmhdfodmkahaa.PM Go.Proofs.Ytibmhdfodmkahaa.TrM Go.Proofs.Ytibmhdfodmkahaa.Ask Go.Proofs.Ytibmhdfodmkahaa.Tri
set_option linter.unusedVariables false
set_option linter.unusedSimpArgs false

set_option maxRecDepth 1000000 in
set_option maxHeartbeats 16000000 in
theorem case_9 {w wr : World} {ss : List Sp} {L k cap : Nat} {va : Option Addr} {ts : List Tr} {bts : List Nat} {bks : List Bs} {gt gb n cT cb : Nat} {U : Nat → Value} (hL : ss.length = L) (hbig : L ≤ 1048576) (hk : k < L) (hkd : k < ss.length) (H : Ge.Lst ES w va ss) (s : Sp) (hs : ss[k] = s) (hok : SpOk s)
    (hst : St w.heap.size w (keys (ss.take k)) ts ts bts bks (.slice (some ⟨gt, 0, none⟩) n cT) (.slice (some ⟨gb, 0, none⟩) n cb) wr) (hn : ts.length = n) (hkind : s.kind = 9) :
    Code.wp Try.prog body (Exit.then (fun a' w'' => WI w ss va L cap a' w'' ∧ Wmu L a' w'' < L - k) (QX w ss va L cap)) ⟨fr U va L cap (.slice (some ⟨gt, 0, none⟩) n cT) (.slice (some ⟨gb, 0, none⟩) n cb) (.int .i64 (k : Int)), []⟩ wr := by
  have HL : Hid (ss.length = L) := hL
  have HN : Hid (ts.length = n) := hn
  have HST : Hid (St w.heap.size w (keys (ss.take k)) ts ts bts bks (.slice (some ⟨gt, 0, none⟩) n cT) (.slice (some ⟨gb, 0, none⟩) n cb) wr) := hst
  obtain ⟨b, o, e, hbl, hc⟩ := (H.bel (hst.bel.mono (by have := hst.nsz; omega))).cells k hkd
  subst e
  have c0 := hc 0 (by decide)
  have c1 := hc 1 (by decide)
  have c2 := hc 2 (by decide)
  have c3 := hc 3 (by decide)
  have c4 := hc 4 (by decide)
  have c5 := hc 5 (by decide)
  have c6 := hc 6 (by decide)
  have HS : Hid (ss[k] = s) := hs
  rw [hs] at c0 c1 c2 c3 c4 c5 c6
  simp only [ES, spL, List.getElem?_cons_zero, List.getElem?_cons_succ, Nat.add_zero] at c0 c1 c2 c3 c4 c5 c6
  have hkk : (k : Int) < L := by omega
  have kk0 : (0 : Int) ≤ k := by omega
  clear hc hs hst hn hL
  obtain ⟨kd, tr, sa, sn, sv, sf, sd⟩ := s
  obtain ⟨hoa, hod, hot⟩ := hok
  dsimp only at hkind hoa hod hot c0 c1 c2 c3 c4 c5 c6
  have HKD : Hid (kd = 9) := hkind
  clear hkind
  obtain ⟨tx, htx⟩ : ∃ tx : Int, tx = if tr < 0 then 0 else tr := ⟨_, rfl⟩
  have htx0 : 0 ≤ tx ∧ tx < 9223372036854775808 := by rw [htx]; split <;> omega
  have HTX : Hid (tx = if tr < 0 then 0 else tr) := htx
  clear htx
  conv => arg 2; whnf
  unfold fr
  go_upto_region 9 with fail
  obtain ⟨wA, hwA⟩ : ∃ wA, wr.alloc (Obj.cells #[.int .i64 kd, .int .i64 tr, .int .u32 sa, .int .i64 sn, .int .i64 sv, .int .i64 sf, .int .u32 sd] 35) = wA := ⟨_, rfl⟩
  have HWA : Hid (Below wr.heap.size wr wA ∧ wA.heap.size = wr.heap.size + 1 ∧ Bx7 wr.heap.size ⟨kd, tr, sa, sn, sv, sf, sd⟩ wA ∧ wA.cell? ⟨wr.heap.size, 1, none⟩ = some (.int .i64 tr) ∧ wA.frozen? ⟨wr.heap.size, 1, none⟩ = false) := by
    rw [← hwA]
    exact ⟨(Below.refl _ wr).alloc (Nat.le_refl _) _, by simp, ⟨by simp, by simp, by simp, by simp, by simp, by simp, by simp⟩, by simp, by simp⟩
  rw [hwA]
  clear hwA c0 c1 c2 c3 c4 c5 c6 hbl
  obtain ⟨bs, hbs⟩ : ∃ bs, wr.heap.size = bs := ⟨_, rfl⟩
  have HBS : Hid (wr.heap.size = bs) := hbs
  rw [hbs] at HWA ⊢
  clear hbs
  obtain ⟨hb, hsz, hbx, ct, cf⟩ := HWA.out
  go_upto_if 55 with fail
  go_cut [] from 56 to 56 (fun wx => Bx7 bs ⟨kd, tr, sa, sn, sv, sf, sd⟩ wx ∧ wx.cell? ⟨bs, 1, none⟩ = some (.int .i64 tx) ∧ Below bs wr wx ∧ wx.heap.size = bs + 1)
  case first =>
    by_cases htr : tr < 0
    · have e : tx = 0 := by rw [HTX.out, if_pos htr]
      go_wp2_with fail
      go_meet
      exact ⟨⟨by simp [go_sem, hbx.k], by simp [go_sem, hbx.a], by simp [go_sem, hbx.n], by simp [go_sem, hbx.v], by simp [go_sem, hbx.f], by simp [go_sem, hbx.d], by simpa using hbx.lt⟩, by rw [e]; simp [go_sem, ct], hb.setCell (p := ⟨bs, 1, none⟩) (Nat.le_refl _) _, by simpa using hsz⟩
    · have e : tx = tr := by rw [HTX.out, if_neg htr]
      go_wp2_with fail
      go_meet
      exact ⟨hbx, by rw [e]; exact ct, hb, hsz⟩
  case rest =>
    obtain ⟨hbx', ct', hb', hsz'⟩ := hcut
    have HSTc : Hid (St w.heap.size w (keys (ss.take (k + 1))) ts ts bts bks (.slice (some ⟨gt, 0, none⟩) n cT) (.slice (some ⟨gb, 0, none⟩) n cb) wc) := (HST.out.below (by rw [HBS.out]; exact hb')).keys hkd
    have HBX : Hid (Bx7 bs ⟨kd, tr, sa, sn, sv, sf, sd⟩ wc) := hbx'
    have HSZ : Hid (wc.heap.size = bs + 1) := hsz'
    have HGB : Hid (gt < bs ∧ gb < bs) := by rw [← HBS.out]; exact ⟨(HST.out.ot.row.lt gt rfl).2, (HST.out.ob.row.lt gb rfl).2⟩
    have HLT : Hid (∀ b ∈ bts, b < bs) := fun b hb => by rw [← HBS.out]; exact HST.out.lt hb
    clear hbx' hb' HST HWA hb hsz hbx ct cf HTX
    have hn0 : 0 < n := by rw [← HN.out]; exact HSTc.out.pos
    have hn12 : n ≤ 12 := by rw [← HN.out]; exact HSTc.out.few
    obtain ⟨q, hq⟩ : ∃ q : Nat, tx.tmod (n : Int) = (q : Int) := ⟨(tx.tmod (n : Int)).toNat, by rw [Int.toNat_of_nonneg (Int.tmod_nonneg _ htx0.1)]⟩
    have hqn : q < n := by
      have := Int.tmod_lt_of_pos tx (b := (n : Int)) (by omega)
      omega
    have hqi : (q : Int) < n := by omega
    have hq0 : (0 : Int) ≤ q := by omega
    have hni : (0 : Int) < n := by omega
    have hqb : q < bts.length := by rw [HSTc.out.l1, HN.out]; exact hqn
    have hqk : q < bks.length := by rw [HSTc.out.l2, HN.out]; exact hqn
    have hqt : q < ts.length := by rw [HN.out]; exact hqn
    obtain ⟨bt, hbt⟩ : ∃ bt, bts[q] = bt := ⟨_, rfl⟩
    obtain ⟨bk, hbk⟩ : ∃ bk, bks[q] = bk := ⟨_, rfl⟩
    have HBT : Hid (bts[q] = bt) := hbt
    have HBK : Hid (bks[q] = bk) := hbk
    have hbtb : bt < bs := by rw [← hbt]; exact HLT.out _ (List.getElem_mem hqb)
    have d0 : wc.cell? ⟨gt, q, none⟩ = some (.pointer (some ⟨bt, 0, none⟩)) := by
      have := HSTc.out.ot.at0.1 q hqb 0 (by decide)
      rw [hbt] at this; simpa [EP] using this
    have d1 : wc.cell? ⟨gb, q, none⟩ = some (.slice bk.1 bk.2.1 bk.2.2) := by
      have := HSTc.out.ob.at0.1 q hqk 0 (by decide)
      rw [hbk] at this; simpa [EB] using this
    have d0a : ∀ ob, (wc.alloc ob).cell? ⟨gt, q, none⟩ = some (.pointer (some ⟨bt, 0, none⟩)) := fun ob => cell_bel d0 ((Below.refl _ wc).alloc (Nat.le_refl _) _)
    have d1a : ∀ ob, (wc.alloc ob).cell? ⟨gb, q, none⟩ = some (.slice bk.1 bk.2.1 bk.2.2) := fun ob => cell_bel d1 ((Below.refl _ wc).alloc (Nat.le_refl _) _)
    clear hbt hbk
    go_wp2_with fail
    go_region
    go_upto_region 14 with fail
    obtain ⟨bka, bkl, bkc⟩ := bk
    dsimp only
    obtain ⟨wD, hwD⟩ : ∃ wD, (wc.alloc (Obj.cells #[.slice bka bkl bkc] 28)).drew = wD := ⟨_, rfl⟩
    have hbD : Below wc.heap.size wc wD := by rw [← hwD]; exact ((Below.refl _ wc).alloc (Nat.le_refl _) _).drew
    have HBC : Hid (wD.cell? ⟨bs + 1, 0, none⟩ = some (.slice bka bkl bkc) ∧ bs + 1 < wD.heap.size) := by
      rw [← hwD, ← HSZ.out]
      exact ⟨by simp [go_sem], by simp⟩
    have HSD : Hid (St w.heap.size w (keys (ss.take (k + 1))) ts ts bts bks (.slice (some ⟨gt, 0, none⟩) n cT) (.slice (some ⟨gb, 0, none⟩) n cb) wD) := HSTc.out.below hbD
    have HBD : Hid (Bx7 bs ⟨kd, tr, sa, sn, sv, sf, sd⟩ wD) := HBX.out.below hbD
    have HC1 : Hid (wD.cell? ⟨bs, 1, none⟩ = some (.int .i64 tx)) := cell_bel ct' hbD
    first | rw [hwD] | rw [HSZ.out, hwD]
    clear hwD hbD HBX HSTc HSZ d0 d1 d0a d1a ct'
    obtain ⟨T, hT⟩ : ∃ T, ts[q] = T := ⟨_, rfl⟩
    have HT : Hid (ts[q] = T) := hT
    have HH : Hid (HoldsN (okL bts (.slice (some ⟨gt, 0, none⟩) n cT) (.slice (some ⟨gb, 0, none⟩) n cb)) wD bt T) := by have := HSD.out.ho q hqb hqt; rw [hT, HBT.out] at this; exact this
    have HBO : Hid (Bo (okL bts (.slice (some ⟨gt, 0, none⟩) n cT) (.slice (some ⟨gb, 0, none⟩) n cb)) wD (bka, bkl, bkc) (allT T)) := by have := HSD.out.bo q hqk hqt; rw [hT, HBK.out] at this; exact this
    have HG : Hid (Gd (keys (ss.take (k + 1))) T) := by rw [← hT]; exact HSD.out.gt _ (List.getElem_mem hqt)
    have HK1 : Hid ((keys (ss.take (k + 1))).length ≤ 1099511627776) := keys_le hk hbig
    have hkl : bkl = (allT T).length := HBO.out.len
    have hlen : (allT T).length ≤ 1099511627776 := Nat.le_trans HG.out.len HK1.out
    have e0 := HBD.out.k
    have e2 := HBD.out.a
    have e3 := HBD.out.n
    have e4 := HBD.out.v
    have e5 := HBD.out.f
    have e6 := HBD.out.d
    have e7 := HBC.out.1
    have hki : (k : Int) + 1 = ((k + 1 : Nat) : Int) := by omega
    have HKI : Hid ((k : Int) + 1 = ((k + 1 : Nat) : Int)) := hki
    dsimp only at e0 e2 e3 e4 e5 e6
    clear hT hki
    obtain rfl := HKD.out
    subst hkl
    obtain ⟨M, hM⟩ : ∃ M, moreP sa sn sv sf = M := ⟨_, rfl⟩
    have hmk : ∀ x ∈ M, In32 x.1 ∧ (x.1, x.2.1) ∈ keys (ss.take (k + 1)) := by
      rw [← hM, keys_snoc hkd, HS.out]
      intro x hx
      unfold moreP at hx
      split at hx
      · rcases List.mem_cons.1 hx with rfl | hx
        · exact ⟨hoa, by simp⟩
        · rw [List.mem_singleton] at hx; subst hx; exact ⟨hoa, by simp⟩
      · rw [List.mem_singleton] at hx; subst hx; exact ⟨hoa, by simp⟩
    have hml : M.length ≤ 2 := by rw [← hM]; unfold moreP; split <;> simp
    have HMK : Hid (∀ x ∈ M, In32 x.1 ∧ (x.1, x.2.1) ∈ keys (ss.take (k + 1))) := hmk
    have e1 := HC1.out
    have hmore := more_any 9 tx sa sn sv sf sd wD hoa.1 hoa.2
    rw [hM] at hmore
    have HMORE : Hid (Calls _ _ _ _ _) := hmore
    clear hmore hM hmk
    go_wp2_with fail
    refine HMORE.out.mono ?_
    rintro e wE ⟨ma, mc, rfl, hma, hbE, hmo⟩
    have f7 := cell_bel e7 hbE
    have HBL : Hid (bt < wD.heap.size ∧ bs + 1 < wD.heap.size ∧ wD.heap.size ≤ wE.heap.size) := ⟨HH.out.lt, HBC.out.2, hbE.size⟩
    have HMO : Hid (∀ b o, ma = some ⟨b, o, none⟩ → wD.heap.size ≤ b) := hmo
    obtain ⟨X0, hX0⟩ : ∃ x, wE.drew = x := ⟨_, rfl⟩
    have hbX : Below wE.heap.size wE X0 := by rw [← hX0]; exact bel_q wE 1
    have HSX : Hid (St w.heap.size w (keys (ss.take (k + 1))) ts ts bts bks (.slice (some ⟨gt, 0, none⟩) n cT) (.slice (some ⟨gb, 0, none⟩) n cb) X0) := (HSD.out.below hbE).below hbX
    have HMA : Hid (Arr3 X0 ma M) := hma.bel hbX
    have HXS : Hid (wD.heap.size ≤ X0.heap.size) := Nat.le_trans hbE.size hbX.size
    clear hma hbE hmo hbX HMORE HSD HBO HH HBD HBC e0 e1 e2 e3 e4 e5 e6 e7
    obtain ⟨lt, hlt⟩ : ∃ lt, (allT T).length = lt := ⟨_, rfl⟩
    have HLT9 : Hid ((allT T).length = lt) := hlt
    rw [hlt] at f7 hlen
    simp only [hlt]
    clear hlt
    obtain ⟨ml, hmlen⟩ : ∃ ml, M.length = ml := ⟨_, rfl⟩
    have HML : Hid (M.length = ml) := hmlen
    rw [hmlen] at hml
    simp only [hmlen]
    clear hmlen
    go_wp2_with fail
    refine wp_region_held_drew (S := fun W => W.cell? ⟨bs + 1, 0, none⟩ = some (.slice bka lt bkc)) (by kernel_rfl) f7 (fun hHeld => ?_)
    rw [hX0] at hHeld ⊢
    clear hX0 f7
    refine wpAnyH_take (i := 0) (v := ?_) rfl (by kernel_rfl) (by kernel_rfl) (by kernel_rfl) (fun _ _ _ h => h) (Or.inl ⟨by rfl, ?_⟩) (by assumption) ?_
    case refine_2 => intro W hSw; go_simp; try rfl
    try simp only [Act.put, List.getElem_toArray, List.getElem_cons_zero, List.getElem_cons_succ, List.setIfInBounds_toArray, List.set_cons_zero, List.set_cons_succ]
    refine wpAnyH_take (i := 1) (v := ?_) rfl (by kernel_rfl) (by kernel_rfl) (by kernel_rfl) (fun _ _ _ h => h) (Or.inl ⟨by rfl, ?_⟩) (by assumption) ?_
    case refine_2 => intro W hSw; go_simp; try rfl
    try simp only [Act.put, List.getElem_toArray, List.getElem_cons_zero, List.getElem_cons_succ, List.setIfInBounds_toArray, List.set_cons_zero, List.set_cons_succ]
    refine wpAnyH_take (i := 3) (v := ?_) rfl (by kernel_rfl) (by kernel_rfl) (by kernel_rfl) (fun _ _ _ h => h) (Or.inl ⟨by rfl, ?_⟩) (by assumption) ?_
    case refine_2 => intro W hSw; go_simp; try rfl
    try simp only [Act.put, List.getElem_toArray, List.getElem_cons_zero, List.getElem_cons_succ, List.setIfInBounds_toArray, List.set_cons_zero, List.set_cons_succ]
    refine wpAnyH_take (i := 4) (v := .slice bka lt bkc) rfl (by kernel_rfl) (by kernel_rfl) (by kernel_rfl) (fun _ _ _ h => h) (Or.inl ⟨by rfl, ?_⟩) (by assumption) ?_
    case refine_1 => intro W hSw; have a7 := hSw; go_simp; try rfl
    try simp only [Act.put, List.getElem_toArray, List.getElem_cons_zero, List.getElem_cons_succ, List.setIfInBounds_toArray, List.set_cons_zero, List.set_cons_succ]
    refine wpAnyH_ready (rs := [2]) (by kernel_rfl) (by simp) ?_
    refine AllReadyH.cons rfl (fun K hK => ?_) AllReadyH.nil
    go_simp
    have hnk : ¬ okL bts (.slice (some ⟨gt, 0, none⟩) n cT) (.slice (some ⟨gb, 0, none⟩) n cb) bt := by have := HSX.out.nok hqb; rw [HBT.out] at this; exact this
    have hhX := HSX.out.ho q hqb hqt
    rw [HBT.out, HT.out] at hhX
    have hstir := stir_any _ bt T (keys (ss.take (k + 1))) ma mc M X0 hhX hnk HSX.out.new HG.out HMK.out HK1.out HMA.out (fun b o e => by have := HMO.out b o e; have := HBL.out; omega)
    rw [HML.out, HLT9.out] at hstir
    refine hstir.mono ?_
    rintro e X1 ⟨xa, xc, rfl, hxa, hbx, hhX1⟩
    have hgS : Gd (keys (ss.take (k + 1))) (stirs M T (allT T)) := Gd.stirs HMK.out HG.out
    have hST := HSX.out.turn hqb (T := stirs M T (allT T)) hgS (by rw [HBT.out]; exact hbx) (by rw [HBT.out]; exact hhX1)
    have HS1 : Hid (St w.heap.size w (keys (ss.take (k + 1))) (ts.set q (stirs M T (allT T))) ts bts bks (.slice (some ⟨gt, 0, none⟩) n cT) (.slice (some ⟨gb, 0, none⟩) n cb) X1) := hST
    have HXA : Hid (Arr3 X1 xa (allT T)) := hxa
    have HM1 : Hid (Arr3 X1 ma M) := arr_keep HMA.out hbx.size (fun _ b o e hl => hbx.block b hl (by have := HMO.out b o e; have := HBL.out; omega))
    have hB1 := hST.bo q hqk hqt
    rw [HT.out, HBK.out] at hB1
    have HB1 : Hid (Bo (okL bts (.slice (some ⟨gt, 0, none⟩) n cT) (.slice (some ⟨gb, 0, none⟩) n cb)) X1 (bka, lt, bkc) (allT T)) := by have h := hB1; rw [HLT9.out] at h; exact h
    refine hK.out _ _ ((World.cell?_of_block (a := ⟨bs + 1, 0, none⟩) (hbx.block (bs + 1) (by have := HBL.out; have := HXS.out; omega) (by omega))).trans hHeld) (fun hHeld => ?_)
    have HXS1 : Hid (wD.heap.size ≤ X1.heap.size) := Nat.le_trans HXS.out hbx.size
    clear hK K hnk hhX hstir hxa hbx hhX1 hST hB1 HSX HMA hgS
    try simp only [Act.put, List.getElem_toArray, List.getElem_cons_zero, List.getElem_cons_succ, List.setIfInBounds_toArray, List.set_cons_zero, List.set_cons_succ]
    refine wpAnyH_ready (rs := [5]) (by kernel_rfl) (by simp) ?_
    refine AllReadyH.cons rfl (fun K hK => ?_) AllReadyH.nil
    go_simp
    have hsame := same_yes xa bka xc bkc (allT T) (-1) (by decide) X1 HXA.out HB1.out.arr
    rw [HLT9.out] at hsame
    refine hsame.mono ?_
    rintro e X2 ⟨rfl, hb2⟩
    have HS2 : Hid (St w.heap.size w (keys (ss.take (k + 1))) (ts.set q (stirs M T (allT T))) ts bts bks (.slice (some ⟨gt, 0, none⟩) n cT) (.slice (some ⟨gb, 0, none⟩) n cb) X2) := HS1.out.below hb2
    have HM2 : Hid (Arr3 X2 ma M) := HM1.out.bel hb2
    have HB2 : Hid (Bo (okL bts (.slice (some ⟨gt, 0, none⟩) n cT) (.slice (some ⟨gb, 0, none⟩) n cb)) X2 (bka, lt, bkc) (allT T)) := ⟨HB1.out.len, HB1.out.arr.bel hb2, HB1.out.ok⟩
    refine hK.out _ _ (cell_bel hHeld hb2) (fun hHeld => ?_)
    have HXS2 : Hid (wD.heap.size ≤ X2.heap.size) := Nat.le_trans HXS1.out hb2.size
    clear hK K hsame hb2 HS1 HM1 HB1 HXA
    try simp only [Act.put, List.getElem_toArray, List.getElem_cons_zero, List.getElem_cons_succ, List.setIfInBounds_toArray, List.set_cons_zero, List.set_cons_succ]
    refine wpAnyH_take (i := 6) (v := ?_) rfl (by kernel_rfl) (by kernel_rfl) (by kernel_rfl) (fun _ _ _ h => h) (Or.inl ⟨by rfl, ?_⟩) (by assumption) ?_
    case refine_2 => intro W hSw; go_simp; try rfl
    try simp only [Act.put, List.getElem_toArray, List.getElem_cons_zero, List.getElem_cons_succ, List.setIfInBounds_toArray, List.set_cons_zero, List.set_cons_succ]
    refine wpAnyH_done (by kernel_rfl) ?_ _
    have HF7 : Hid (X2.cell? ⟨bs + 1, 0, none⟩ = some (.slice bka lt bkc)) := hHeld
    have f7 := HF7.out
    have f7a : ∀ ob, (X2.alloc ob).cell? ⟨bs + 1, 0, none⟩ = some (.slice bka lt bkc) := fun ob => cell_bel f7 ((Below.refl _ X2).alloc (Nat.le_refl _) _)
    clear hHeld
    have HOL : Hid (∀ b, X2.heap.size ≤ b → okL bts (.slice (some ⟨gt, 0, none⟩) n cT) (.slice (some ⟨gb, 0, none⟩) n cb) b) := HS2.out.new
    obtain ⟨m, hm⟩ : ∃ m, X2.heap.size = m := ⟨_, rfl⟩
    have HMM : Hid (X2.heap.size = m) := hm
    go_upto_region 52 with fail
    obtain ⟨wK, hwK⟩ : ∃ wK, X2.alloc (Obj.cells #[.slice bka lt bkc] 28) = wK := ⟨_, rfl⟩
    have HC0 : Hid (Ci (okL bts (.slice (some ⟨gt, 0, none⟩) n cT) (.slice (some ⟨gb, 0, none⟩) n cb)) X2 m (allT (stirs M T ((allT T).take 0))) wK) := Ci.start (l := allT T) (ca := bka) (cc := bkc) (by rw [HLT9.out]; exact hwK) hm HB2.out.arr HB2.out.ok
    rw [hwK]
    have k7 : wK.cell? ⟨bs + 1, 0, none⟩ = some (.slice bka lt bkc) := by rw [← hwK]; exact f7a _
    clear hwK f7 f7a hm
    have hlt9 : (allT T).length ≤ 1099511627776 := Nat.le_trans HG.out.len HK1.out
    rw [HLT9.out] at hlt9
    go_wp2_with fail
    go_loopw [257] (fun iv wx => ∃ i : Nat, i ≤ lt ∧ iv = .int .i64 (i : Int) ∧ Ci (okL bts (.slice (some ⟨gt, 0, none⟩) n cT) (.slice (some ⟨gb, 0, none⟩) n cb)) X2 m (allT (stirs M T ((allT T).take i))) wx) (fun iv _ => lt - (intOf iv).toNat)
    case atStart => exact ⟨0, by omega, rfl, HC0.out⟩
    case round =>
      obtain ⟨i, hi, rfl, hci⟩ := hrel
      have HCI : Hid (Ci (okL bts (.slice (some ⟨gt, 0, none⟩) n cT) (.slice (some ⟨gb, 0, none⟩) n cb)) X2 m (allT (stirs M T ((allT T).take i))) wr) := hci
      clear hci HC0 k7
      have hgi : Gd (keys (ss.take (k + 1))) (stirs M T ((allT T).take i)) := Gd.stirs HMK.out HG.out
      have HGI : Hid (Gd (keys (ss.take (k + 1))) (stirs M T ((allT T).take i))) := hgi
      by_cases hil : i < lt
      · have hid : i < (allT T).length := by rw [HLT9.out]; exact hil
        obtain ⟨yb, yo, hye, hyl, y0, y1, y2⟩ := (HB2.out.arr.bel (HCI.out.bel)).cells i hid
        have hy32 : In32 (allT T)[i].1 := all_u32 HG.out.wf _ (List.getElem_mem hid)
        have HSN : Hid (stirs M T ((allT T).take (i + 1)) = putAll (del (stirs M T ((allT T).take i)) (allT T)[i].1 (allT T)[i].2.1).1 M) := by
          rw [List.take_succ_eq_append_getElem hid, stirs_snoc]; rfl
        obtain ⟨y, hy⟩ : ∃ y, (allT T)[i] = y := ⟨_, rfl⟩
        rw [hy] at y0 y1 y2 hy32 HSN
        clear hy
        obtain ⟨ya, yn, yv⟩ := y
        generalize stirs M T ((allT T).take i) = Ti at *
        have hii : (i : Int) < lt := by omega
        have ii0 : (0 : Int) ≤ i := by omega
        subst hye
        clear hgi
        go_upto_region 55 with fail
        obtain ⟨wA, hwA⟩ : ∃ wA, wr.alloc (Obj.cells #[.int .u32 ya, .int .i64 yn, .int .i64 yv] 53) = wA := ⟨_, rfl⟩
        have HCA : Hid (Ci (okL bts (.slice (some ⟨gt, 0, none⟩) n cT) (.slice (some ⟨gb, 0, none⟩) n cb)) X2 m (allT Ti) wA) := by rw [← hwA]; exact HCI.out.below ((Below.refl _ wr).alloc (Nat.le_refl _) _)
        have z0 : wA.cell? ⟨wr.heap.size, 0, none⟩ = some (.int .u32 ya) := by rw [← hwA]; simp
        have z1 : wA.cell? ⟨wr.heap.size, 1, none⟩ = some (.int .i64 yn) := by rw [← hwA]; simp
        rw [hwA]
        clear hwA y0 y1 y2 HCI
        obtain ⟨ca, cc, c0, cf, harr, hcok⟩ := HCA.out.cell
        have HARR : Hid (Bk.Arr3 wA ca (allT Ti)) := to_bk harr
        clear harr hcok
        go_wp2_with fail
        refine (Bk.bdrop_any ca cc (allT Ti) ya yn wA HARR.out (by have := Nat.le_trans HGI.out.len HK1.out; omega)).mono ?_
        rintro e wB ⟨da, dc, he, hda, hbB, hdo⟩
        rw [← all_del HGI.out.wf] at he hda
        subst he
        have hcb := HCA.out.below hbB
        obtain ⟨ca', cc', c0', cf', -, -⟩ := hcb.cell
        have HCB : Hid (Ci (okL bts (.slice (some ⟨gt, 0, none⟩) n cT) (.slice (some ⟨gb, 0, none⟩) n cb)) X2 m (allT (del Ti ya yn).1) (wB.setCell ⟨m, 0, none⟩ (.slice da (allT (del Ti ya yn).1).length dc))) := hcb.store (by have := HMM.out; omega) (of_bk hda) (fun _ b o e => ⟨HOL.out b (by have := hdo b o e; have := HCA.out.bel.size; omega), by have := hdo b o e; have := HCA.out.lt; omega⟩)
        have HGD : Hid (Gd (keys (ss.take (k + 1))) (del Ti ya yn).1) := HGI.out.del
        clear hda hbB hdo hcb HARR HCA c0 cf z0 z1
        generalize (del Ti ya yn).1 = Td at *
        go_upto_region 56 with fail
        obtain ⟨wC, hwC⟩ : ∃ wC, wB.setCell ⟨m, 0, none⟩ (.slice da (allT Td).length dc) = wC := ⟨_, rfl⟩
        rw [hwC] at HCB ⊢
        clear hwC c0' cf'
        go_wp2_with fail
        go_loopw [267] (fun jv wx => ∃ j : Nat, j ≤ ml ∧ jv = .int .i64 (j : Int) ∧ Ci (okL bts (.slice (some ⟨gt, 0, none⟩) n cT) (.slice (some ⟨gb, 0, none⟩) n cb)) X2 m (allT (putAll Td (M.take j))) wx) (fun jv _ => ml - (intOf jv).toNat)
        case atStart => exact ⟨0, by omega, rfl, HCB.out⟩
        case round =>
          obtain ⟨j, hj, rfl, hcj⟩ := hrel
          have HCJ : Hid (Ci (okL bts (.slice (some ⟨gt, 0, none⟩) n cT) (.slice (some ⟨gb, 0, none⟩) n cb)) X2 m (allT (putAll Td (M.take j))) wr) := hcj
          clear hcj
          have HGJ : Hid (Gd (keys (ss.take (k + 1))) (putAll Td (M.take j))) := HGD.out.putAll (fun y hy => HMK.out y (List.mem_of_mem_take hy))
          by_cases hjl : j < ml
          · have hjd : j < M.length := by rw [HML.out]; exact hjl
            obtain ⟨zb, zo, hze, hzl, x0, x1, x2⟩ := (HM2.out.bel HCJ.out.bel).cells j hjd
            have hz := HMK.out _ (List.getElem_mem hjd)
            have HSJ : Hid (putAll Td (M.take (j + 1)) = put1 (putAll Td (M.take j)) M[j]) := putAll_take hjd
            obtain ⟨z, hzz⟩ : ∃ z, M[j] = z := ⟨_, rfl⟩
            rw [hzz] at x0 x1 x2 hz HSJ
            clear hzz
            obtain ⟨za, zn, zv⟩ := z
            generalize putAll Td (M.take j) = Tj at *
            have hjj : (j : Int) < ml := by omega
            have jj0 : (0 : Int) ≤ j := by omega
            subst hze
            go_upto_region 59 with fail
            obtain ⟨wA, hwA⟩ : ∃ wA, wr.alloc (Obj.cells #[.int .u32 za, .int .i64 zn, .int .i64 zv] 43) = wA := ⟨_, rfl⟩
            have HCA : Hid (Ci (okL bts (.slice (some ⟨gt, 0, none⟩) n cT) (.slice (some ⟨gb, 0, none⟩) n cb)) X2 m (allT Tj) wA) := by rw [← hwA]; exact HCJ.out.below ((Below.refl _ wr).alloc (Nat.le_refl _) _)
            have z0 : wA.cell? ⟨wr.heap.size, 0, none⟩ = some (.int .u32 za) := by rw [← hwA]; simp
            have z1 : wA.cell? ⟨wr.heap.size, 1, none⟩ = some (.int .i64 zn) := by rw [← hwA]; simp
            have z2 : wA.cell? ⟨wr.heap.size, 2, none⟩ = some (.int .i64 zv) := by rw [← hwA]; simp
            rw [hwA]
            clear hwA x0 x1 x2 HCJ
            obtain ⟨ca, cc, c0, cf, harr, hcok⟩ := HCA.out.cell
            have HARR : Hid (Bk.Arr3 wA ca (allT Tj)) := to_bk harr
            have HCOK : Hid (0 < (allT Tj).length → ∀ b o, ca = some ⟨b, o, none⟩ → okL bts (.slice (some ⟨gt, 0, none⟩) n cT) (.slice (some ⟨gb, 0, none⟩) n cb) b ∧ b ≠ m) := hcok
            clear harr hcok
            go_wp2_with fail
            refine (Bk.bput1_any ca cc (allT Tj) za zn zv wA HARR.out hz.1.1 hz.1.2 (by have := Nat.le_trans HGJ.out.len HK1.out; omega)).mono ?_
            rintro e wB ⟨da, dc, he, hda, hbB, hdo⟩
            rw [← all_put1 (x := (za, zn, zv)) HGJ.out.wf hz.1] at he hda hdo
            subst he
            have hcb := HCA.out.below hbB
            obtain ⟨ca', cc', c0', cf', -, -⟩ := hcb.cell
            have HCB2 : Hid (Ci (okL bts (.slice (some ⟨gt, 0, none⟩) n cT) (.slice (some ⟨gb, 0, none⟩) n cb)) X2 m (allT (put1 Tj (za, zn, zv))) (wB.setCell ⟨m, 0, none⟩ (.slice da (allT (put1 Tj (za, zn, zv))).length dc))) := hcb.store (by have := HMM.out; omega) (of_bk hda) (fun hp b o e => by
              rcases hdo with ⟨h1, h2⟩ | h1
              · subst h1; rw [h2] at hp; exact HCOK.out hp b o e
              · exact ⟨HOL.out b (by have := h1 b o e; have := HCA.out.bel.size; omega), by have := h1 b o e; have := HCA.out.lt; omega⟩)
            clear hda hbB hdo hcb HARR HCA c0 cf z0 z1 z2 HCOK
            generalize (allT (put1 Tj (za, zn, zv))).length = pl at *
            go_wp2_with fail
            go_roundw
            case rel => exact ⟨j + 1, by omega, by simp, by rw [HSJ.out]; exact HCB2.out⟩
            case measure => simp [intOf]; omega
          · obtain rfl : j = ml := by omega
            have HFI : Hid (Ci (okL bts (.slice (some ⟨gt, 0, none⟩) n cT) (.slice (some ⟨gb, 0, none⟩) n cb)) X2 m (allT (stirs M T ((allT T).take (i + 1)))) wr) := by
              have h := HCJ.out
              rw [List.take_of_length_le (by rw [HML.out]; exact Nat.le_refl _), ← HSN.out] at h
              exact h
            clear HCJ HGJ
            go_wp2_with fail
            go_roundw
            case rel => exact ⟨i + 1, by omega, by simp, HFI.out⟩
            case measure => simp [intOf]; omega
      · obtain rfl : i = lt := by omega
        have hci := HCI.out
        rw [List.take_of_length_le (by rw [HLT9.out]; exact Nat.le_refl _)] at hci
        have hgS : Gd (keys (ss.take (k + 1))) (stirs M T (allT T)) := Gd.stirs HMK.out HG.out
        generalize stirs M T (allT T) = TS at *
        have HSW := HS2.out.below hci.bel
        obtain ⟨ca, cc, c0, cf, harr, hcok⟩ := hci.cell
        have hBo : Bo (okL bts (.slice (some ⟨gt, 0, none⟩) n cT) (.slice (some ⟨gb, 0, none⟩) n cb)) wr (ca, (allT TS).length, cc) (allT TS) := ⟨rfl, harr, fun hp b o e => (hcok hp b o e).1⟩
        have HSK : Hid (St w.heap.size w (keys (ss.take (k + 1))) (ts.set q TS) (ts.set q TS) bts (bks.set q (ca, (allT TS).length, cc)) (.slice (some ⟨gt, 0, none⟩) n cT) (.slice (some ⟨gb, 0, none⟩) n cb) (wr.setCell ⟨gb, q, none⟩ (.slice ca (allT TS).length cc))) := HSW.book hqk hgS hBo
        have h0 : wr.cell? ⟨gb, q, none⟩ = some (.slice bka (allT T).length bkc) := by
          have := HSW.ob.at0.1 q hqk 0 (by decide)
          rw [HBK.out] at this; simpa [EB] using this
        have h1 := HSW.ob.at0.2.1 q
        clear hBo harr hcok HSW hci HCI HGI hgi HS2 HB2 HM2
        generalize (allT TS).length = tsl at *
        go_wp2_with fail
        rw [HKI.out]
        exact wi_end fr_mk (Nat.lt_succ_self k) hk ⟨_, bts, _, HSK.out⟩
end Go.Proofs.Ytibmhdfodmkahaa.Tu
