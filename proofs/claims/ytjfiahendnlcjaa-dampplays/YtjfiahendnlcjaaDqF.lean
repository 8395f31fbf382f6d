/- The document's damper in memory: Freed. -/
import Derived.Test.YtjfiahendnlcjaaDqE
namespace Go.Proofs.Ytjfiahendnlcjaa.Da
open Go.ChangeShapes Go.WideShapes Go.ChangeAt Go.RowKit Go.Joins Go.Deep Go.Proofs.Ytjfiahendnlcjaa.Ge Go.Proofs.Ytjfiahendnlcjaa.PM Go.Proofs.Ytjfiahendnlcjaa.Ask
set_option linter.unusedVariables false
set_option linter.unusedSimpArgs false

theorem bxs_pre {w W : World} {L M : List (Sk × Nat × List Value)} (h : Bxs w (L ++ M) W) : Bxs w L W :=
  ⟨h.bel, fun i x hx => h.at_ i x (by rw [List.getElem?_append_left (List.getElem?_eq_some_iff.1 hx).1]; exact hx), fun i j x y hx hy => h.ne i j x y (by rw [List.getElem?_append_left (List.getElem?_eq_some_iff.1 hx).1]; exact hx) (by rw [List.getElem?_append_left (List.getElem?_eq_some_iff.1 hy).1]; exact hy)⟩
/-- boxes, and two lists beside them -/
def bsR (BL : List (Sk × Nat × List Value)) (ov lv : Value) : List Nat := adr BL ++ (ov.ownBlock.toList ++ lv.ownBlock.toList)
structure R0 (w : World) (BL : List (Sk × Nat × List Value)) (ov : Value) (outs : List (Int × Int)) (lv : Value) (ls : List DM) (W : World) : Prop where
  bx : Bxs w BL W
  oo : OB E2 w.heap.size (adr BL) W ov outs
  ol : OB EK w.heap.size (adr BL) W lv ls
  ap : ∀ g, ov.ownBlock = some g → lv.ownBlock ≠ some g
section
variable {w W W' : World} {BL : List (Sk × Nat × List Value)} {ov lv nv : Value} {outs ys : List (Int × Int)} {ls : List DM}
theorem R0.step (h : R0 w BL ov outs lv ls W) (hb : Below W.heap.size W W') : R0 w BL ov outs lv ls W' := ⟨h.bx.step hb, h.oo.bel hb, h.ol.bel hb, h.ap⟩
theorem R0.bs (h : R0 w BL ov outs lv ls W) : ∀ b ∈ bsR BL ov lv, b < W.heap.size := fun b hb => by
  rcases List.mem_append.1 hb with k | k
  · exact h.bx.adrs b k
  · rcases List.mem_append.1 k with k | k
    · exact (h.oo.own.row.lt b (by simpa using k)).2
    · exact (h.ol.own.row.lt b (by simpa using k)).2
theorem R0.grown (h : R0 w BL ov outs lv ls W) (hg : W.grownBy W' nv.ownBlock) (hn : OB E2 w.heap.size (bsR BL ov lv) W nv ys) : R0 w BL ov outs lv ls W' :=
  ⟨h.bx.grown hg (fun g e => ⟨(hn.own.row.lt g e).1, fun k => hn.ap g e (List.mem_append.2 (.inl k))⟩),
   ⟨h.oo.own.grown hg (fun g e e2 => hn.ap g e2 (List.mem_append.2 (.inr (List.mem_append.2 (.inl (by simpa using e)))))), h.oo.ap⟩,
   ⟨h.ol.own.grown hg (fun g e e2 => hn.ap g e2 (List.mem_append.2 (.inr (List.mem_append.2 (.inr (by simpa using e)))))), h.ol.ap⟩, h.ap⟩
theorem R0.out (h : R0 w BL ov outs lv ls W) (hn : OB E2 w.heap.size (bsR BL ov lv) W nv ys) : R0 w BL nv ys lv ls W :=
  ⟨h.bx, ⟨hn.own, fun g e k => hn.ap g e (List.mem_append.2 (.inl k))⟩, h.ol, fun g e e2 => hn.ap g e (List.mem_append.2 (.inr (List.mem_append.2 (.inr (by simpa using e2)))))⟩
theorem R0.appL {lv' : Value} {ls' : List DM} (h : R0 w BL ov outs lv ls W) (hg : W.grownBy W' lv.ownBlock) (ho : OwnL EK w.heap.size W' lv' ls') (hat : lv'.ownBlock = lv.ownBlock ∨ lv'.ownBlock = some W.heap.size) : R0 w BL ov outs lv' ls' W' :=
  ⟨h.bx.grown hg h.ol.for, ⟨h.oo.own.grown hg (fun g e e2 => h.ap g e e2), h.oo.ap⟩, h.ol.app ho hat h.bx.adrs, fun g e e2 => by
    rcases hat with c | c
    · exact h.ap g e (c ▸ e2)
    · rw [c] at e2; cases e2; have := (h.oo.own.row.lt _ e).2; omega⟩
theorem R0.more {T : Sk} {b : Nat} {cs : List Value} (h : R0 w BL ov outs lv ls W) (hb : W.heap.size = b) (hs : SB T b cs W') (hbl : Below W.heap.size W W') : R0 w (BL ++ [(T, b, cs)]) ov outs lv ls W' :=
  ⟨h.bx.new hb hs hbl, ⟨h.oo.own.bel hbl, fun g e k => by
    unfold adr at k
    rw [List.map_append] at k
    rcases List.mem_append.1 k with k | k
    · exact h.oo.ap g e k
    · have := (h.oo.own.row.lt g e).2; simp at k; omega⟩, ⟨h.ol.own.bel hbl, fun g e k => by
    unfold adr at k
    rw [List.map_append] at k
    rcases List.mem_append.1 k with k | k
    · exact h.ol.ap g e k
    · have := (h.ol.own.row.lt g e).2; simp at k; omega⟩, h.ap⟩
theorem R0.less {M : List (Sk × Nat × List Value)} (h : R0 w (BL ++ M) ov outs lv ls W) : R0 w BL ov outs lv ls W :=
  ⟨bxs_pre h.bx, ⟨h.oo.own, fun g e k => h.oo.ap g e (by unfold adr; rw [List.map_append]; exact List.mem_append.2 (.inl k))⟩, ⟨h.ol.own, fun g e k => h.ol.ap g e (by unfold adr; rw [List.map_append]; exact List.mem_append.2 (.inl k))⟩, h.ap⟩
theorem R0.upd {BL' : List (Sk × Nat × List Value)} {b : Nat} (h : R0 w BL ov outs lv ls W) (hb : Bxs w BL' W') (hk : Ko W b W') (hm : b ∈ adr BL) (ha : adr BL' = adr BL) : R0 w BL' ov outs lv ls W' :=
  ⟨hb, by rw [ha]; exact h.oo.ko hk hm, by rw [ha]; exact h.ol.ko hk hm, h.ap⟩
end
/-- parts of a list of prefixes -/
theorem plo_run {o : Oper} {ρ : Operand → Value} {W : World} (x hi : Operand) (ho : o.op = .slice 43 x none (some hi) none) {a : Option Addr} {n c h : Nat} (hx : ρ x = .slice a n c) (hh : ρ hi = .int .i64 (h : Int)) (h2 : h ≤ n) (h3 : n ≤ c) (h4 : a = none → n = 0 ∧ c = 0) (h5 : ∀ b o s, a = some ⟨b, o, s⟩ → s = none) : (execOp ρ o).run Try.prog W = .ok (.value (.slice a h c)) W := by
  have g1 : (h : Int) ≤ (c : Int) := by omega
  unfold execOp
  rw [ho]
  cases a with
  | none =>
    obtain ⟨rfl, rfl⟩ := h4 rfl
    obtain rfl : h = 0 := by omega
    simp [go_sem, hx, hh]
  | some a =>
    obtain ⟨b, f, s⟩ := a
    obtain rfl := h5 b f s rfl
    simp [go_sem, hx, hh, g1]
theorem list_plo {ops : Array Oper} {rest : List Oper} {o : Oper} {ac : Act} {Q : Exit → Act → World → Prop} {W : World} (hgd : o.guard = none) (x hi : Operand) (ho : o.op = .slice 43 x none (some hi) none) {a : Option Addr} {n c h : Nat} (hx : ac.eval x = .slice a n c) (hh : ac.eval hi = .int .i64 (h : Int)) (h2 : h ≤ n) (h3 : n ≤ c) (h4 : a = none → n = 0 ∧ c = 0) (h5 : ∀ b o s, a = some ⟨b, o, s⟩ → s = none)
    (k : wpList Try.prog ops Q rest (ac.put o.dst (.slice a h c)) W) : wpList Try.prog ops Q (o :: rest) ac W := by
  have g1 : (h : Int) ≤ (c : Int) := by omega
  have g2 : (0 : Int) ≤ (h : Int) := by omega
  refine wpList_plain hgd fun K hK => ?_
  unfold Oper.wp
  rw [plo_run x hi ho hx hh h2 h3 h4 h5]
  exact hK _ _ k
theorem phi_run {o : Oper} {ρ : Operand → Value} {W : World} (x lo : Operand) (ho : o.op = .slice 43 x (some lo) none none) {b f n c l : Nat} (hx : ρ x = .slice (some ⟨b, f, none⟩) n c) (hl : ρ lo = .int .i64 (l : Int)) (h2 : l ≤ n) (h3 : n ≤ c) : (execOp ρ o).run Try.prog W = .ok (.value (.slice (if c = l then some ⟨b, f, none⟩ else some ⟨b, f + l * 2, none⟩) (n - l) (c - l))) W := by
  have g1 : (l : Int) ≤ (n : Int) := by omega
  unfold execOp
  rw [ho]
  simp [go_sem, hx, hl, g1]
theorem phi0_run {o : Oper} {ρ : Operand → Value} {W : World} (x lo : Operand) (ho : o.op = .slice 43 x (some lo) none none) (hx : ρ x = .slice none 0 0) (hl : ρ lo = .int .i64 0) : (execOp ρ o).run Try.prog W = .ok (.value (.slice none 0 0)) W := by
  unfold execOp
  rw [ho]
  simp [go_sem, hx, hl]
theorem list_phi {ops : Array Oper} {rest : List Oper} {o : Oper} {ac : Act} {Q : Exit → Act → World → Prop} {W : World} (hgd : o.guard = none) (x lo : Operand) (ho : o.op = .slice 43 x (some lo) none none) {a : Option Addr} {n c l : Nat} {xs : List (Int × Int)} (hx : ac.eval x = .slice a n c) (hl : ac.eval lo = .int .i64 (l : Int)) (h2 : l ≤ n) (h3 : n ≤ c) (h4 : a = none → n = 0 ∧ c = 0) (h5 : ∀ b o s, a = some ⟨b, o, s⟩ → s = none) (hxs : Lst E2 W a xs) (hn : xs.length = n)
    (k : ∀ a' : Option Addr, Hid (Lst E2 W a' (xs.drop l)) → Hid (a' = none → n - l = 0 ∧ c - l = 0) → wpList Try.prog ops Q rest (ac.put o.dst (.slice a' (n - l) (c - l))) W) : wpList Try.prog ops Q (o :: rest) ac W := by
  have g1 : (l : Int) ≤ (n : Int) := by omega
  have g2 : (0 : Int) ≤ (l : Int) := by omega
  refine wpList_plain hgd fun K hK => ?_
  unfold Oper.wp
  cases a with
  | none =>
    obtain ⟨rfl, rfl⟩ := h4 rfl
    obtain rfl : l = 0 := by omega
    rw [phi0_run x lo ho hx hl]
    exact hK _ _ (k none (by rw [List.drop_zero]; exact hxs) (fun _ => ⟨rfl, rfl⟩))
  | some a =>
    obtain ⟨b, f, s⟩ := a
    obtain rfl := h5 b f s rfl
    rw [phi_run x lo ho hx hl h2 h3]
    refine hK _ _ (k _ ?_ (fun e => by split at e <;> cases e))
    show Lst E2 W _ _
    split
    · have : xs.drop l = [] := List.drop_of_length_le (by omega)
      rw [this]
      exact ⟨by simp, fun i hi => absurd hi (by simp)⟩
    · exact hxs.drop l
theorem own_none {α : Type} {E : El α} {N n k : Nat} {w : World} {a : Option Addr} {xs : List α} (h : OwnL E N w (.slice a n k) xs) : n ≤ k ∧ (a = none → n = 0 ∧ k = 0) ∧ (∀ b o s, a = some ⟨b, o, s⟩ → s = none) ∧ xs.length = n := by
  rcases h.row.2 with ⟨h1, h2⟩ | ⟨g, c, cur, h1, h2, h3, h4, h5⟩
  · cases h1
    exact ⟨Nat.le_refl _, fun _ => ⟨rfl, rfl⟩, fun b o s e => (by cases e), h2⟩
  · cases h1
    exact ⟨h4, fun e => (by cases e), fun b o s e => (by cases e; rfl), rfl⟩
def plt (p q : Int × Int) : Prop := p.1 < q.1 ∨ (p.1 = q.1 ∧ p.2 < q.2)
theorem ins_srt {outs : List (Int × Int)} {k : Nat} {p : Int × Int} (hs : Srt outs) (hlt : ∀ j (hj : j < outs.length), j < k → plt outs[j] p) (hge : ∀ h : k < outs.length, ¬ plt outs[k] p) : Srt (outs.take k ++ [p] ++ outs.drop k) := by
  unfold Srt at *
  have hp : ∀ q ∈ outs.take k, plt q p := fun q hq => by
    obtain ⟨j, hj, e⟩ := List.getElem_of_mem hq
    rw [List.length_take] at hj
    rw [List.getElem_take] at e
    rw [← e]
    exact hlt j (by omega) (by omega)
  have hg : ∀ q ∈ outs.drop k, ¬ plt q p := fun q hq => by
    obtain ⟨j, hj, e⟩ := List.getElem_of_mem hq
    rw [List.length_drop] at hj
    rw [List.getElem_drop] at e
    rw [← e]
    have h0 := hge (by omega)
    rcases Nat.eq_zero_or_pos j with rfl | hj0
    · exact h0
    · have h1 := (List.pairwise_iff_getElem.1 hs) k (k + j) (by omega) (by omega) (by omega)
      unfold plt at *
      omega
  rw [List.append_assoc, List.pairwise_append]
  refine ⟨hs.sublist (List.take_sublist _ _), ?_, ?_⟩
  · rw [List.singleton_append, List.pairwise_cons]
    refine ⟨fun q hq => ?_, hs.sublist (List.drop_sublist _ _)⟩
    have := hg q hq
    unfold plt at this
    omega
  · intro a ha b hb
    have h1 := hp a ha
    rw [List.singleton_append] at hb
    rcases List.mem_cons.1 hb with rfl | h2
    · unfold plt at h1; omega
    · have h3 := hg b h2
      unfold plt at h1 h3
      omega
theorem ins_perm {outs : List (Int × Int)} {k : Nat} {p : Int × Int} : (outs.take k ++ [p] ++ outs.drop k).Perm (outs ++ [p]) := by
  rw [List.append_assoc]
  have h1 : (outs.take k ++ ([p] ++ outs.drop k)).Perm (outs.take k ++ (outs.drop k ++ [p])) := List.Perm.append_left _ List.perm_append_comm
  refine h1.trans ?_
  rw [← List.append_assoc, List.take_append_drop]
/-- what Freed answers -/
def DrPost (w : World) (c' : Dc) (L' : List DM) (fo : List (Int × Int)) (e : Ending) (w' : World) : Prop := ∃ va' n' cap' oa on oc ys, e = .returned (.tuple #[.agg (ddL c' va' n' cap').toArray, .slice oa on oc]) ∧ Lst EK w' va' L' ∧ L'.length = n' ∧ (∀ b o s, va' = some ⟨b, o, s⟩ → w.heap.size ≤ b) ∧ Lst E2 w' oa ys ∧ ys.length = on ∧ Srt ys ∧ ys.Perm fo ∧ Below w.heap.size w w'
theorem dfreed_res {W : World} {b : Nat} {c : Dc} {a : Option Addr} {n k : Nat} {er : Value} (h : SB DdK b (ddL c a n k) W) {tm : Array Value} (t1 : (tm[4]?).getD undef = .pointer (some ⟨b, 0, none⟩)) (t2 : (tm[5]?).getD undef = er) : (results Try.f15 tm).run Try.prog W = .ok (.tuple #[.agg (ddL c a n k).toArray, er]) W := by
  have c0 : W.cell? ⟨b, 0, none⟩ = some (.int .i64 (c.half : Int)) := h.cell 0
  have c1 : W.cell? ⟨b, 1, none⟩ = some (.int .i64 (c.limit : Int)) := h.cell 1
  have c2 : W.cell? ⟨b, 2, none⟩ = some (.int .i64 (c.reuse : Int)) := h.cell 2
  have c3 : W.cell? ⟨b, 3, none⟩ = some (.int .i64 (c.most : Int)) := h.cell 3
  have c4 : W.cell? ⟨b, 4, none⟩ = some (.int .i64 (c.down : Int)) := h.cell 4
  have c5 : W.cell? ⟨b, 5, none⟩ = some (.int .i64 (c.change : Int)) := h.cell 5
  have c6 : W.cell? ⟨b, 6, none⟩ = some (.int .i64 (c.clock : Int)) := h.cell 6
  have c7 : W.cell? ⟨b, 7, none⟩ = some (.slice a n k) := h.cell 7
  simp [results, Try.results15, go_sem, ddL, t1, t2, c0, c1, c2, c3, c4, c5, c6, c7]
def frX (c : Dc) (L : List DM) (t : Nat) (m : DM) : DM := if frM c L t m = true then { m with due := false } else m
theorem frL_take {c : Dc} {L : List DM} {t i : Nat} (h : i < L.length) : (frL c L t).take (i + 1) = (frL c L t).take i ++ [frX c L t L[i]] := by
  have h2 : i < (frL c L t).length := by unfold frL; rw [List.length_map]; exact h
  rw [take_one h2]
  congr 2
  simp only [frL, List.getElem_map]
  rfl
theorem frO_next {c : Dc} {L : List DM} {t i : Nat} (h : i < L.length) : ((L.take (i + 1)).filter (frM c L t)).map (·.p) = ((L.take i).filter (frM c L t)).map (·.p) ++ (if frM c L t L[i] = true then [L[i].p] else []) := by
  rw [take_one h, List.filter_append, List.map_append]
  congr 1
  cases hk : frM c L t L[i] <;> simp [List.filter, hk]
def plB (p q : Int × Int) : Bool := decide (p.1 < q.1) || (decide (p.1 = q.1) && decide (p.2 < q.2))
theorem plB_iff (p q : Int × Int) : plB p q = true ↔ plt p q := by unfold plB plt; simp
def rK (outs : List (Int × Int)) (k : Nat) (p : Int × Int) : Bool := (outs[k]?).elim false (fun q => plB q p)
theorem rK_at {outs : List (Int × Int)} {k : Nat} {p : Int × Int} (h : k < outs.length) : rK outs k p = plB outs[k] p := by unfold rK; rw [List.getElem?_eq_getElem h]; rfl
theorem rK_no {outs : List (Int × Int)} {k : Nat} {p : Int × Int} (h : ¬ k < outs.length) : rK outs k p = false := by unfold rK; rw [List.getElem?_eq_none (by omega)]; rfl
structure R1 (w : World) (BL : List (Sk × Nat × List Value)) (c : Dc) (L : List DM) (t n : Nat) (iv ov lv : Value) (W : World) : Prop where
  at_ : ∃ (i : Nat) (outs : List (Int × Int)), i ≤ n ∧ iv = .int .i64 (i : Int) ∧ R0 w BL ov outs lv ((frL c L t).take i) W ∧ Srt outs ∧ outs.Perm (((L.take i).filter (frM c L t)).map (·.p))
structure R2 (w : World) (BL : List (Sk × Nat × List Value)) (ov : Value) (outs : List (Int × Int)) (lv : Value) (ls : List DM) (p : Int × Int) (kv : Value) (W : World) : Prop where
  at_ : ∃ k : Nat, k ≤ outs.length ∧ kv = .int .i64 (k : Int) ∧ ∀ j (hj : j < outs.length), j < k → plt outs[j] p
  r0 : R0 w BL ov outs lv ls W
theorem wpList_want {ops : Array Oper} {rest : List Oper} {o : Oper} {a : Act} {Q : Exit → Act → World → Prop} {w : World} (hw : Region.wanted o (yielded ops a.tmps) = true)
    (h : ∀ K : Act → World → Prop, (∀ a w, wpList Try.prog ops Q rest a w → K a w) → o.wp Try.prog a w K Q) : wpList Try.prog ops Q (o :: rest) a w :=
  wpList_step fun K hK => by rw [if_pos hw]; exact h K hK
theorem bx_ldw {ops : Array Oper} {rest : List Oper} {o : Oper} {ac : Act} {Q : Exit → Act → World → Prop} {w W : World} {L : List (Sk × Nat × List Value)} (h : Bxs w L W) (i : Nat) {T : Sk} {b : Nat} {cs : List Value} (hL : L[i]? = some (T, b, cs)) (hw : Region.wanted o (yielded ops ac.tmps) = true) (x : Operand) (ho : o.op = .load T.t x) (hx : ac.eval x = .pointer (some ⟨b, 0, none⟩)) (hl : cs.length = T.k)
    (k : wpList Try.prog ops Q rest (ac.put o.dst (.agg cs.toArray)) W) : wpList Try.prog ops Q (o :: rest) ac W := by
  refine wpList_want hw fun K hK => ?_
  unfold Oper.wp
  rw [sload_run T x ho hx (h.get i hL) hl]
  exact hK _ _ k
theorem list_satw {ops : Array Oper} {rest : List Oper} {o : Oper} {ac : Act} {Q : Exit → Act → World → Prop} {W : World} (T : Sk) (hw : Region.wanted o (yielded ops ac.tmps) = true) (x : Operand) (ho : o.op = .load T.t x) {b k : Nat} {cs : List Value} (hx : ac.eval x = .pointer (some ⟨b, k, none⟩)) (h : ∀ j, j < T.k → W.cell? ⟨b, k + j, none⟩ = cs[j]?) (hl : cs.length = T.k)
    (kk : wpList Try.prog ops Q rest (ac.put o.dst (.agg cs.toArray)) W) : wpList Try.prog ops Q (o :: rest) ac W := by
  refine wpList_want hw fun K hK => ?_
  unfold Oper.wp
  rw [sat_run T x ho hx h hl]
  exact hK _ _ kk
set_option maxRecDepth 100000 in
set_option maxHeartbeats 32000000 in
theorem dfreed_any (c : Dc) (hc : DcOk c) (va : Option Addr) (n cap : Nat) (L : List DM) (hn : L.length = n) (hbd : BdL c L) (now : Int) (t : Nat) (ht : max (c.clock : Int) (min now 1099511627776) = (t : Int)) (hnl : n ≤ 1000000) (w : World) (h : Lst EK w va L) :
    Calls Try.prog 15 #[.agg (ddL c va n cap).toArray, .int .i64 now] w (DrPost w (clkD c t) (frL c L t) (frO c L t)) := by
  have H : Hid (Lst EK w va L) := h
  have HN : Hid (L.length = n) := hn
  have htc : c.clock ≤ t := by omega
  have ht4 : t ≤ 1099511627776 := by have := hc.clock; omega
  have HC : Hid (DcOk (clkD c t)) := ⟨hc.half, hc.reuse, hc.most, hc.down, hc.change, ht4⟩
  have HBL : Hid (BdL (clkD c t) L) := fun m hm => ⟨(hbd m hm).1, Nat.le_trans (hbd m hm).2 htc⟩
  obtain ⟨mn, hmn⟩ : ∃ y, min now 1099511627776 = y := ⟨_, rfl⟩
  have HMN : Hid (min now 1099511627776 = mn) := hmn
  have HT : Hid (max (c.clock : Int) mn = (t : Int)) := by rw [← hmn]; exact ht
  clear h hn hc hbd ht hmn htc
  go_enter Try.func15, Try.ntmps15
  have HB : Hid (Bxs w [] w) := Bxs.nil w
  go_wp2_with (refine list_sbox DdK rfl _ rfl (cs := ddL c va n cap) rfl ?_)
  intro W1 hx hb hz
  obtain ⟨b2, hbe⟩ : ∃ y, w.heap.size = y := ⟨_, rfl⟩
  rw [hbe]
  have hx2 := hx.out
  rw [hbe] at hx2
  replace HB : Hid (Bxs w [(DdK, b2, ddL c va n cap)] W1) := HB.out.new hbe hx2 hb.out
  clear hx hb hz hx2 hbe
  go_wp2_with (refine list_ddnew rfl rfl ?_)
  intro b4 W2 hbe hx hb
  replace HB : Hid (Bxs w [(DdK, b2, ddL c va n cap), (DdK, b4, ddL zc none 0 0)] W2) := HB.out.new hbe.out hx.out hb.out
  clear hx hb hbe
  go_upto_if 13 with fail
  go_cut [1, 13] from 14 to 101 (fun nv _ wx => nv = .int .i64 mn ∧ wx = W2)
  case first =>
    by_cases hm : 1099511627776 < now
    · have HE2 : Hid (1099511627776 = mn) := by have := HMN.out; show _ = _; omega
      go_wp2_with fail
      go_meet
      exact ⟨by rw [← HE2.out], rfl⟩
    · have HE2 : Hid (now = mn) := by have := HMN.out; show _ = _; omega
      go_wp2_with fail
      go_meet
      exact ⟨by rw [HE2.out], rfl⟩
  case rest =>
  obtain ⟨rfl, rfl⟩ : _ ∧ W2 = wc := ⟨hcut.1, hcut.2.symm⟩
  have c26 : W2.cell? ⟨b2, 6, none⟩ = some (.int .i64 (c.clock : Int)) := (HB.out.get 0 rfl).cell 6
  go_upto_if 17 with fail
  go_cut [17] from 18 to 101 (fun _ wx => Bxs w [(DdK, b2, ddL (clkD c t) va n cap), (DdK, b4, ddL zc none 0 0)] wx)
  case first =>
    by_cases hm : (c.clock : Int) < mn
    · have HE2 : Hid (mn = (t : Int)) := by have := HT.out; show _ = _; omega
      go_wp2_with (refine bx_pI HB.out 0 6 rfl _ _ rfl rfl rfl rfl rfl ?_)
      intro WE hb2 hk
      clear hk
      go_wp2_with fail
      go_meet
      have h5 := hb2.out
      rw [HE2.out] at h5
      exact h5
    · have HE2 : Hid (c.clock = t) := by have := HT.out; show _ = _; omega
      go_wp2_with fail
      go_meet
      have h5 : clkD c t = c := by rw [← HE2.out]; rfl
      rw [h5]
      exact HB.out
  case rest =>
  replace HB : Hid (Bxs w [(DdK, b2, ddL (clkD c t) va n cap), (DdK, b4, ddL zc none 0 0)] wc) := hcut
  obtain ⟨W3, hwb⟩ : ∃ y, wc = y := ⟨_, rfl⟩
  rw [hwb] at HB ⊢
  clear hwb hcut c26 HMN HT
  have c27 : W3.cell? ⟨b2, 7, none⟩ = some (.slice va n cap) := (HB.out.get 0 rfl).cell 7
  go_wp2_with fail
  go_loopw [23, 6, 7, 9, 10, 11] (fun iv ov lv _ _ _ wr => R1 w [(DdK, b2, ddL (clkD c t) va n cap), (DdK, b4, ddL zc none 0 0)] c L t n iv ov lv wr) (fun i _ _ _ _ _ _ => n - (intOf i).toNat)
  case atStart => exact ⟨⟨0, [], by omega, rfl, ⟨HB.out, OB.nil _ _ _ _, OB.nil _ _ _ _, fun g e => by cases e⟩, List.Pairwise.nil, List.Perm.nil⟩⟩
  case round =>
    obtain ⟨⟨i, outs, hi, rfl, hr0, hsr, hpm⟩⟩ := hrel
    clear c27 HB
    obtain ⟨ls, hls⟩ : ∃ y, (frL c L t).take i = y := ⟨_, rfl⟩
    have HLS : Hid ((frL c L t).take i = ls) := hls
    rw [hls] at hr0
    have HR : Hid (R0 w [(DdK, b2, ddL (clkD c t) va n cap), (DdK, b4, ddL zc none 0 0)] _ outs _ ls wr) := hr0
    have HSR : Hid (Srt outs) := hsr
    have HPM : Hid (outs.Perm (((L.take i).filter (frM c L t)).map (·.p))) := hpm
    have HOLN : Hid (outs.length ≤ 1000000) := by
      have h1 := hpm.length_eq
      rw [List.length_map] at h1
      have h2 := List.length_filter_le (frM c L t) (L.take i)
      rw [List.length_take] at h2
      show _ ≤ _
      omega
    have HLLN : Hid (ls.length ≤ 1000000) := by
      show _ ≤ _
      rw [← hls, List.length_take]
      omega
    clear hr0 hls hsr hpm
    obtain ⟨oa, oc, rfl, -⟩ := HR.out.oo.own.form
    obtain ⟨la, lc, rfl, -⟩ := HR.out.ol.own.form
    obtain ⟨on, hon⟩ : ∃ y, outs.length = y := ⟨_, rfl⟩
    obtain ⟨ln, hln⟩ : ∃ y, ls.length = y := ⟨_, rfl⟩
    have HON : Hid (outs.length = on) := hon
    have HLN : Hid (ls.length = ln) := hln
    rw [hon, hln] at HR ⊢
    obtain ⟨WA, hwa⟩ : ∃ y, wr = y := ⟨_, rfl⟩
    rw [hwa] at HR ⊢
    clear hwa hon hln
    by_cases hlt : i < n
    case pos =>
      have hil : i < L.length := by rw [HN.out]; exact hlt
      have hii : (i : Int) < (n : Int) := by omega
      have ii0 : (0 : Int) ≤ (i : Int) := by omega
      obtain ⟨lb, lo, rfl, hlb, hcl⟩ := (H.out.bel HR.out.bx.bel).cells i hil
      obtain ⟨x, hx⟩ : ∃ x, L[i] = x := ⟨_, rfl⟩
      rw [hx] at hcl
      have HCL : Hid (∀ j, j < MkK.k → WA.cell? ⟨lb, lo + i * 6 + j, none⟩ = (mkL x)[j]?) := fun j hj => hcl j hj
      have HFL : Hid ((frL c L t).take (i + 1) = ls ++ [frX c L t x]) := by show _ = _; rw [frL_take hil, HLS.out, hx]
      have HFO : Hid (((L.take (i + 1)).filter (frM c L t)).map (·.p) = ((L.take i).filter (frM c L t)).map (·.p) ++ (if frM c L t x = true then [x.p] else [])) := by show _ = _; rw [frO_next hil, hx]
      clear hx hcl hlb
      go_wp2_with (first | (refine list_sat MkK rfl _ rfl (b := lb) (k := lo + i * 6) (cs := mkL x) rfl HCL.out rfl ?_) | (refine list_mknew rfl rfl ?_))
      intro b9 W4 hbe hx hb
      replace HR : Hid (R0 w [(DdK, b2, ddL (clkD c t) (some ⟨lb, lo, none⟩) n cap), (DdK, b4, ddL zc none 0 0), (MkK, b9, mkL ⟨(0, 0), 0, 0, false, false⟩)] (.slice oa on oc) outs (.slice la ln lc) ls W4) := HR.out.more hbe.out hx.out hb.out
      clear hbe hx hb HCL
      obtain ⟨⟨x1, x2⟩, xv, xs, xh, xd⟩ := x
      go_wp2_with (refine bx_st HR.out.bx 2 rfl rfl _ _ rfl rfl (mkL ⟨(x1, x2), xv, xs, xh, xd⟩) rfl rfl rfl rfl ?_)
      intro W5 hb2 hk
      replace HR : Hid (R0 w [(DdK, b2, ddL (clkD c t) (some ⟨lb, lo, none⟩) n cap), (DdK, b4, ddL zc none 0 0), (MkK, b9, mkL ⟨(x1, x2), xv, xs, xh, xd⟩)] (.slice oa on oc) outs (.slice la ln lc) ls W5) := HR.out.upd hb2.out hk.out (by simp [adr]) rfl
      clear hb2 hk
      have c95 : W5.cell? ⟨b9, 5, none⟩ = some (.bool xd) := (HR.out.bx.get 2 rfl).cell 5
      have HMX : Hid (frM c L t ⟨(x1, x2), xv, xs, xh, xd⟩ = (xd && !heldP c (dfn L) (x1, x2) t)) := rfl
      cases xd
      case false =>
        rw [Bool.false_and] at HMX
        have HX0 : Hid (frX c L t ⟨(x1, x2), xv, xs, xh, false⟩ = ⟨(x1, x2), xv, xs, xh, false⟩) := by show _ = _; unfold frX; rw [HMX.out]; rfl
        have HF2 : Hid (outs.Perm (((L.take (i + 1)).filter (frM c L t)).map (·.p))) := by
          have h5 := HFO.out
          rw [HMX.out, if_neg (by decide), List.append_nil] at h5
          show List.Perm _ _
          rw [h5]
          exact HPM.out
        rw [HX0.out] at HFL
        clear HX0 HFO HMX
        have HA2 : Hid (Below W5.heap.size W5 (W5.alloc (Obj.cells (mkL ⟨(x1, x2), xv, xs, xh, false⟩).toArray 64))) := (Below.refl _ W5).alloc (Nat.le_refl _) _
        have HRA : Hid (R0 w [(DdK, b2, ddL (clkD c t) (some ⟨lb, lo, none⟩) n cap), (DdK, b4, ddL zc none 0 0), (MkK, b9, mkL ⟨(x1, x2), xv, xs, xh, false⟩)] (.slice oa on oc) outs (.slice la ln lc) ls (W5.alloc (Obj.cells (mkL ⟨(x1, x2), xv, xs, xh, false⟩).toArray 64))) := HR.out.step HA2.out
        go_upto_region 19 with fail
        go_wp2_with (first | (refine bx_ld HR.out.bx 2 rfl rfl _ rfl rfl rfl ?_) | (refine list_mkbuild rfl _ rfl ⟨(x1, x2), xv, xs, xh, false⟩ rfl ?_) | (refine list_app1 EK rfl _ _ 30 rfl rfl w.heap.size (.slice la ln lc) ls ⟨(x1, x2), xv, xs, xh, false⟩ (by have := HLLN.out; omega) (w := W5) (W5.alloc (Obj.cells (mkL ⟨(x1, x2), xv, xs, xh, false⟩).toArray 64)) rfl HRA.out.ol.own rfl HRA.out.bx.bel.size rfl ?_))
        intro v7 w7 ho7 hg7 ha7
        have HR7 : Hid (R0 w [(DdK, b2, ddL (clkD c t) (some ⟨lb, lo, none⟩) n cap), (DdK, b4, ddL zc none 0 0), (MkK, b9, mkL ⟨(x1, x2), xv, xs, xh, false⟩)] (.slice oa on oc) outs v7 (ls ++ [⟨(x1, x2), xv, xs, xh, false⟩]) w7) := HRA.out.appL hg7.out ho7.out (by simpa using ha7.out)
        have HR8 : Hid (R0 w [(DdK, b2, ddL (clkD c t) (some ⟨lb, lo, none⟩) n cap), (DdK, b4, ddL zc none 0 0)] (.slice oa on oc) outs v7 ((frL c L t).take (i + 1)) w7) := by rw [HFL.out]; exact HR7.out.less (M := [(MkK, b9, mkL ⟨(x1, x2), xv, xs, xh, false⟩)])
        clear ho7 hg7 ha7 HA2 HRA HR HR7
        go_wp2_with fail
        refine ⟨⟨i + 1, outs, by omega, by simp, HR8.out, HSR.out, HF2.out⟩, ?_⟩
        simp [intOf]
        omega
      case true =>
        rw [Bool.true_and] at HMX
        have c26 : W5.cell? ⟨b2, 6, none⟩ = some (.int .i64 (t : Int)) := (HR.out.bx.get 0 rfl).cell 6
        have HHE := dheld_any (clkD c t) HC.out (some ⟨lb, lo, none⟩) n cap L HN.out HBL.out (x1, x2) t ⟨Nat.le_refl _, by omega⟩ W5 (H.out.bel HR.out.bx.bel)
        have HCP : Hid (∀ j, j < PxK.k → W5.cell? ⟨b9, 0 + j, none⟩ = (pxL (x1, x2))[j]?) := mk_px (m := ⟨(x1, x2), xv, xs, xh, true⟩) (fun j hj => by rw [Nat.zero_add]; exact (HR.out.bx.get 2 rfl).cell j)
        go_wp2_with (first | (refine bx_ldw HR.out.bx 0 rfl rfl _ rfl rfl rfl ?_) | (refine list_satw PxK rfl _ rfl (b := b9) (k := 0) (cs := pxL (x1, x2)) rfl HCP.out rfl ?_))
        refine HHE.mono ?_
        rintro e W6 ⟨rfl, hbl⟩
        replace HR : Hid (R0 w [(DdK, b2, ddL (clkD c t) (some ⟨lb, lo, none⟩) n cap), (DdK, b4, ddL zc none 0 0), (MkK, b9, mkL ⟨(x1, x2), xv, xs, xh, true⟩)] (.slice oa on oc) outs (.slice la ln lc) ls W6) := HR.out.step hbl
        clear hbl HHE HCP c26 c95
        obtain ⟨hz, hhz⟩ : ∃ y, heldP c (dfn L) (x1, x2) t = y := ⟨_, rfl⟩
        have hhz2 : heldP (clkD c t) (dfn L) (x1, x2) t = hz := hhz
        rw [hhz] at HMX
        rw [hhz2]
        clear hhz hhz2
        cases hz
        case true =>
          have HX0 : Hid (frX c L t ⟨(x1, x2), xv, xs, xh, true⟩ = ⟨(x1, x2), xv, xs, xh, true⟩) := by show _ = _; unfold frX; rw [HMX.out]; rfl
          have HF2 : Hid (outs.Perm (((L.take (i + 1)).filter (frM c L t)).map (·.p))) := by
            have h5 := HFO.out
            rw [HMX.out, if_neg (by decide), List.append_nil] at h5
            show List.Perm _ _
            rw [h5]
            exact HPM.out
          rw [HX0.out] at HFL
          clear HX0 HFO HMX
          have HA2 : Hid (Below W6.heap.size W6 (W6.alloc (Obj.cells (mkL ⟨(x1, x2), xv, xs, xh, true⟩).toArray 64))) := (Below.refl _ W6).alloc (Nat.le_refl _) _
          have HRA : Hid (R0 w [(DdK, b2, ddL (clkD c t) (some ⟨lb, lo, none⟩) n cap), (DdK, b4, ddL zc none 0 0), (MkK, b9, mkL ⟨(x1, x2), xv, xs, xh, true⟩)] (.slice oa on oc) outs (.slice la ln lc) ls (W6.alloc (Obj.cells (mkL ⟨(x1, x2), xv, xs, xh, true⟩).toArray 64))) := HR.out.step HA2.out
          go_upto_region 19 with fail
          go_wp2_with (first | (refine bx_ld HR.out.bx 2 rfl rfl _ rfl rfl rfl ?_) | (refine list_mkbuild rfl _ rfl ⟨(x1, x2), xv, xs, xh, true⟩ rfl ?_) | (refine list_app1 EK rfl _ _ 30 rfl rfl w.heap.size (.slice la ln lc) ls ⟨(x1, x2), xv, xs, xh, true⟩ (by have := HLLN.out; omega) (w := W6) (W6.alloc (Obj.cells (mkL ⟨(x1, x2), xv, xs, xh, true⟩).toArray 64)) rfl HRA.out.ol.own rfl HRA.out.bx.bel.size rfl ?_))
          intro v7 w7 ho7 hg7 ha7
          have HR7 : Hid (R0 w [(DdK, b2, ddL (clkD c t) (some ⟨lb, lo, none⟩) n cap), (DdK, b4, ddL zc none 0 0), (MkK, b9, mkL ⟨(x1, x2), xv, xs, xh, true⟩)] (.slice oa on oc) outs v7 (ls ++ [⟨(x1, x2), xv, xs, xh, true⟩]) w7) := HRA.out.appL hg7.out ho7.out (by simpa using ha7.out)
          have HR8 : Hid (R0 w [(DdK, b2, ddL (clkD c t) (some ⟨lb, lo, none⟩) n cap), (DdK, b4, ddL zc none 0 0)] (.slice oa on oc) outs v7 ((frL c L t).take (i + 1)) w7) := by rw [HFL.out]; exact HR7.out.less (M := [(MkK, b9, mkL ⟨(x1, x2), xv, xs, xh, true⟩)])
          clear ho7 hg7 ha7 HA2 HRA HR HR7
          go_wp2_with fail
          refine ⟨⟨i + 1, outs, by omega, by simp, HR8.out, HSR.out, HF2.out⟩, ?_⟩
          simp [intOf]
          omega
        case false =>
          have HM2 : Hid (frM c L t ⟨(x1, x2), xv, xs, xh, true⟩ = true) := HMX.out
          clear HMX
          go_wp2_with (refine bx_pB HR.out.bx 2 5 rfl _ _ rfl rfl rfl rfl rfl ?_)
          intro W7 hb2 hk
          replace HR : Hid (R0 w [(DdK, b2, ddL (clkD c t) (some ⟨lb, lo, none⟩) n cap), (DdK, b4, ddL zc none 0 0), (MkK, b9, mkL ⟨(x1, x2), xv, xs, xh, false⟩)] (.slice oa on oc) outs (.slice la ln lc) ls W7) := HR.out.upd hb2.out hk.out (by simp [adr]) rfl
          clear hb2 hk
          go_wp2_with fail
          go_loopw [10] (fun kv wr => R2 w [(DdK, b2, ddL (clkD c t) (some ⟨lb, lo, none⟩) n cap), (DdK, b4, ddL zc none 0 0), (MkK, b9, mkL ⟨(x1, x2), xv, xs, xh, false⟩)] (.slice oa on oc) outs (.slice la ln lc) ls (x1, x2) kv wr) (fun k _ => on - (intOf k).toNat)
          case atStart => exact ⟨⟨0, by omega, rfl, fun j hj hk => by omega⟩, HR.out⟩
          case round =>
            obtain ⟨⟨k, hk, rfl, hbf⟩, hr0⟩ := hrel
            clear HR
            have HR : Hid (R0 w [(DdK, b2, ddL (clkD c t) (some ⟨lb, lo, none⟩) n cap), (DdK, b4, ddL zc none 0 0), (MkK, b9, mkL ⟨(x1, x2), xv, xs, xh, false⟩)] (.slice oa on oc) outs (.slice la ln lc) ls wr) := hr0
            have HBF : Hid (∀ j (hj : j < outs.length), j < k → plt outs[j] (x1, x2)) := hbf
            obtain ⟨WX, hwx⟩ : ∃ y, wr = y := ⟨_, rfl⟩
            rw [hwx] at HR ⊢
            rw [HON.out] at hk
            have hon2 : on ≤ 1000000 := by have := HOLN.out; rw [HON.out] at this; exact this
            clear hwx hr0 hbf
            obtain ⟨r, hr⟩ : ∃ y, rK outs k (x1, x2) = y := ⟨_, rfl⟩
            have HRK : Hid (rK outs k (x1, x2) = r) := hr
            clear hr
            go_upto_region 13 with fail
            go_cut [75] from 39 to 77 (fun rv wx => rv = .bool r ∧ Below WX.heap.size WX wx)
            case first =>
              go_wp2_with fail
              have HBD : Hid (Below WX.heap.size WX WX.drew) := drew_bel WX
              by_cases hkn : k < on
              case neg =>
                have HE : Hid (r = false) := by show _ = _; rw [← HRK.out]; exact rK_no (by rw [HON.out]; exact hkn)
                have hki : ¬ (k : Int) < (on : Int) := by omega
                refine wp_region_held_drew (S := fun W => True) (by kernel_rfl) trivial (fun hHeld => ?_)
                obtain ⟨wd, hwd⟩ : ∃ z, WX.drew = z := ⟨_, rfl⟩
                rw [hwd] at HBD ⊢
                clear hwd
                refine wpAnyH_take (i := 0) (v := .int .i64 (k : Int)) rfl (by kernel_rfl) (by kernel_rfl) (by kernel_rfl) (fun _ _ _ h => h) (Or.inl ⟨by rfl, ?_⟩) (by assumption) ?_
                case refine_1 => intro W hSw; go_simp; try rfl
                try simp only [Act.put, List.getElem_toArray, List.getElem_cons_zero, List.getElem_cons_succ, List.setIfInBounds_toArray, List.set_cons_zero, List.set_cons_succ]
                refine wpAnyH_take (i := 1) (v := .slice oa on oc) rfl (by kernel_rfl) (by kernel_rfl) (by kernel_rfl) (fun _ _ _ h => h) (Or.inl ⟨by rfl, ?_⟩) (by assumption) ?_
                case refine_1 => intro W hSw; go_simp; try rfl
                try simp only [Act.put, List.getElem_toArray, List.getElem_cons_zero, List.getElem_cons_succ, List.setIfInBounds_toArray, List.set_cons_zero, List.set_cons_succ]
                refine wpAnyH_take (i := 2) (v := .int .i64 (on : Int)) rfl (by kernel_rfl) (by kernel_rfl) (by kernel_rfl) (fun _ _ _ h => h) (Or.inl ⟨by rfl, ?_⟩) (by assumption) ?_
                case refine_1 => intro W hSw; go_simp; try rfl
                try simp only [Act.put, List.getElem_toArray, List.getElem_cons_zero, List.getElem_cons_succ, List.setIfInBounds_toArray, List.set_cons_zero, List.set_cons_succ]
                refine wpAnyH_take (i := 3) (v := .bool false) rfl (by kernel_rfl) (by kernel_rfl) (by kernel_rfl) (fun _ _ _ h => h) (Or.inl ⟨by rfl, ?_⟩) (by assumption) ?_
                case refine_1 => intro W hSw; go_simp; try rfl
                try simp only [Act.put, List.getElem_toArray, List.getElem_cons_zero, List.getElem_cons_succ, List.setIfInBounds_toArray, List.set_cons_zero, List.set_cons_succ]
                refine wpAnyH_take (i := 4) (v := .bool false) rfl (by kernel_rfl) (by kernel_rfl) (by kernel_rfl) (fun _ _ _ h => h) (Or.inl ⟨by rfl, ?_⟩) (by assumption) ?_
                case refine_1 => intro W hSw; go_simp; try rfl
                try simp only [Act.put, List.getElem_toArray, List.getElem_cons_zero, List.getElem_cons_succ, List.setIfInBounds_toArray, List.set_cons_zero, List.set_cons_succ]
                refine wpAnyH_take (i := 5) (v := undef) rfl (by kernel_rfl) (by kernel_rfl) (by kernel_rfl) (fun _ _ _ h => h) (Or.inr ⟨by rfl, rfl⟩) (by assumption) ?_
                try simp only [Act.put, List.getElem_toArray, List.getElem_cons_zero, List.getElem_cons_succ, List.setIfInBounds_toArray, List.set_cons_zero, List.set_cons_succ]
                refine wpAnyH_take (i := 6) (v := undef) rfl (by kernel_rfl) (by kernel_rfl) (by kernel_rfl) (fun _ _ _ h => h) (Or.inr ⟨by rfl, rfl⟩) (by assumption) ?_
                try simp only [Act.put, List.getElem_toArray, List.getElem_cons_zero, List.getElem_cons_succ, List.setIfInBounds_toArray, List.set_cons_zero, List.set_cons_succ]
                refine wpAnyH_take (i := 7) (v := undef) rfl (by kernel_rfl) (by kernel_rfl) (by kernel_rfl) (fun _ _ _ h => h) (Or.inr ⟨by rfl, rfl⟩) (by assumption) ?_
                try simp only [Act.put, List.getElem_toArray, List.getElem_cons_zero, List.getElem_cons_succ, List.setIfInBounds_toArray, List.set_cons_zero, List.set_cons_succ]
                refine wpAnyH_take (i := 8) (v := undef) rfl (by kernel_rfl) (by kernel_rfl) (by kernel_rfl) (fun _ _ _ h => h) (Or.inr ⟨by rfl, rfl⟩) (by assumption) ?_
                try simp only [Act.put, List.getElem_toArray, List.getElem_cons_zero, List.getElem_cons_succ, List.setIfInBounds_toArray, List.set_cons_zero, List.set_cons_succ]
                refine wpAnyH_take (i := 9) (v := undef) rfl (by kernel_rfl) (by kernel_rfl) (by kernel_rfl) (fun _ _ _ h => h) (Or.inr ⟨by rfl, rfl⟩) (by assumption) ?_
                try simp only [Act.put, List.getElem_toArray, List.getElem_cons_zero, List.getElem_cons_succ, List.setIfInBounds_toArray, List.set_cons_zero, List.set_cons_succ]
                refine wpAnyH_take (i := 10) (v := undef) rfl (by kernel_rfl) (by kernel_rfl) (by kernel_rfl) (fun _ _ _ h => h) (Or.inr ⟨by rfl, rfl⟩) (by assumption) ?_
                try simp only [Act.put, List.getElem_toArray, List.getElem_cons_zero, List.getElem_cons_succ, List.setIfInBounds_toArray, List.set_cons_zero, List.set_cons_succ]
                refine wpAnyH_take (i := 11) (v := undef) rfl (by kernel_rfl) (by kernel_rfl) (by kernel_rfl) (fun _ _ _ h => h) (Or.inr ⟨by rfl, rfl⟩) (by assumption) ?_
                try simp only [Act.put, List.getElem_toArray, List.getElem_cons_zero, List.getElem_cons_succ, List.setIfInBounds_toArray, List.set_cons_zero, List.set_cons_succ]
                refine wpAnyH_take (i := 12) (v := undef) rfl (by kernel_rfl) (by kernel_rfl) (by kernel_rfl) (fun _ _ _ h => h) (Or.inr ⟨by rfl, rfl⟩) (by assumption) ?_
                try simp only [Act.put, List.getElem_toArray, List.getElem_cons_zero, List.getElem_cons_succ, List.setIfInBounds_toArray, List.set_cons_zero, List.set_cons_succ]
                refine wpAnyH_take (i := 13) (v := undef) rfl (by kernel_rfl) (by kernel_rfl) (by kernel_rfl) (fun _ _ _ h => h) (Or.inr ⟨by rfl, rfl⟩) (by assumption) ?_
                try simp only [Act.put, List.getElem_toArray, List.getElem_cons_zero, List.getElem_cons_succ, List.setIfInBounds_toArray, List.set_cons_zero, List.set_cons_succ]
                refine wpAnyH_take (i := 14) (v := undef) rfl (by kernel_rfl) (by kernel_rfl) (by kernel_rfl) (fun _ _ _ h => h) (Or.inr ⟨by rfl, rfl⟩) (by assumption) ?_
                try simp only [Act.put, List.getElem_toArray, List.getElem_cons_zero, List.getElem_cons_succ, List.setIfInBounds_toArray, List.set_cons_zero, List.set_cons_succ]
                refine wpAnyH_take (i := 15) (v := undef) rfl (by kernel_rfl) (by kernel_rfl) (by kernel_rfl) (fun _ _ _ h => h) (Or.inr ⟨by rfl, rfl⟩) (by assumption) ?_
                try simp only [Act.put, List.getElem_toArray, List.getElem_cons_zero, List.getElem_cons_succ, List.setIfInBounds_toArray, List.set_cons_zero, List.set_cons_succ]
                refine wpAnyH_take (i := 16) (v := undef) rfl (by kernel_rfl) (by kernel_rfl) (by kernel_rfl) (fun _ _ _ h => h) (Or.inr ⟨by rfl, rfl⟩) (by assumption) ?_
                try simp only [Act.put, List.getElem_toArray, List.getElem_cons_zero, List.getElem_cons_succ, List.setIfInBounds_toArray, List.set_cons_zero, List.set_cons_succ]
                refine wpAnyH_take (i := 17) (v := undef) rfl (by kernel_rfl) (by kernel_rfl) (by kernel_rfl) (fun _ _ _ h => h) (Or.inr ⟨by rfl, rfl⟩) (by assumption) ?_
                try simp only [Act.put, List.getElem_toArray, List.getElem_cons_zero, List.getElem_cons_succ, List.setIfInBounds_toArray, List.set_cons_zero, List.set_cons_succ]
                refine wpAnyH_take (i := 18) (v := undef) rfl (by kernel_rfl) (by kernel_rfl) (by kernel_rfl) (fun _ _ _ h => h) (Or.inr ⟨by rfl, rfl⟩) (by assumption) ?_
                try simp only [Act.put, List.getElem_toArray, List.getElem_cons_zero, List.getElem_cons_succ, List.setIfInBounds_toArray, List.set_cons_zero, List.set_cons_succ]
                refine wpAnyH_take (i := 19) (v := undef) rfl (by kernel_rfl) (by kernel_rfl) (by kernel_rfl) (fun _ _ _ h => h) (Or.inr ⟨by rfl, rfl⟩) (by assumption) ?_
                try simp only [Act.put, List.getElem_toArray, List.getElem_cons_zero, List.getElem_cons_succ, List.setIfInBounds_toArray, List.set_cons_zero, List.set_cons_succ]
                refine wpAnyH_take (i := 20) (v := undef) rfl (by kernel_rfl) (by kernel_rfl) (by kernel_rfl) (fun _ _ _ h => h) (Or.inr ⟨by rfl, rfl⟩) (by assumption) ?_
                try simp only [Act.put, List.getElem_toArray, List.getElem_cons_zero, List.getElem_cons_succ, List.setIfInBounds_toArray, List.set_cons_zero, List.set_cons_succ]
                refine wpAnyH_take (i := 21) (v := undef) rfl (by kernel_rfl) (by kernel_rfl) (by kernel_rfl) (fun _ _ _ h => h) (Or.inr ⟨by rfl, rfl⟩) (by assumption) ?_
                try simp only [Act.put, List.getElem_toArray, List.getElem_cons_zero, List.getElem_cons_succ, List.setIfInBounds_toArray, List.set_cons_zero, List.set_cons_succ]
                refine wpAnyH_take (i := 22) (v := undef) rfl (by kernel_rfl) (by kernel_rfl) (by kernel_rfl) (fun _ _ _ h => h) (Or.inr ⟨by rfl, rfl⟩) (by assumption) ?_
                try simp only [Act.put, List.getElem_toArray, List.getElem_cons_zero, List.getElem_cons_succ, List.setIfInBounds_toArray, List.set_cons_zero, List.set_cons_succ]
                refine wpAnyH_take (i := 23) (v := undef) rfl (by kernel_rfl) (by kernel_rfl) (by kernel_rfl) (fun _ _ _ h => h) (Or.inr ⟨by rfl, rfl⟩) (by assumption) ?_
                try simp only [Act.put, List.getElem_toArray, List.getElem_cons_zero, List.getElem_cons_succ, List.setIfInBounds_toArray, List.set_cons_zero, List.set_cons_succ]
                refine wpAnyH_take (i := 24) (v := undef) rfl (by kernel_rfl) (by kernel_rfl) (by kernel_rfl) (fun _ _ _ h => h) (Or.inr ⟨by rfl, rfl⟩) (by assumption) ?_
                try simp only [Act.put, List.getElem_toArray, List.getElem_cons_zero, List.getElem_cons_succ, List.setIfInBounds_toArray, List.set_cons_zero, List.set_cons_succ]
                refine wpAnyH_take (i := 25) (v := undef) rfl (by kernel_rfl) (by kernel_rfl) (by kernel_rfl) (fun _ _ _ h => h) (Or.inr ⟨by rfl, rfl⟩) (by assumption) ?_
                try simp only [Act.put, List.getElem_toArray, List.getElem_cons_zero, List.getElem_cons_succ, List.setIfInBounds_toArray, List.set_cons_zero, List.set_cons_succ]
                refine wpAnyH_take (i := 26) (v := undef) rfl (by kernel_rfl) (by kernel_rfl) (by kernel_rfl) (fun _ _ _ h => h) (Or.inr ⟨by rfl, rfl⟩) (by assumption) ?_
                try simp only [Act.put, List.getElem_toArray, List.getElem_cons_zero, List.getElem_cons_succ, List.setIfInBounds_toArray, List.set_cons_zero, List.set_cons_succ]
                refine wpAnyH_take (i := 27) (v := undef) rfl (by kernel_rfl) (by kernel_rfl) (by kernel_rfl) (fun _ _ _ h => h) (Or.inr ⟨by rfl, rfl⟩) (by assumption) ?_
                try simp only [Act.put, List.getElem_toArray, List.getElem_cons_zero, List.getElem_cons_succ, List.setIfInBounds_toArray, List.set_cons_zero, List.set_cons_succ]
                refine wpAnyH_take (i := 28) (v := undef) rfl (by kernel_rfl) (by kernel_rfl) (by kernel_rfl) (fun _ _ _ h => h) (Or.inr ⟨by rfl, rfl⟩) (by assumption) ?_
                try simp only [Act.put, List.getElem_toArray, List.getElem_cons_zero, List.getElem_cons_succ, List.setIfInBounds_toArray, List.set_cons_zero, List.set_cons_succ]
                refine wpAnyH_take (i := 29) (v := undef) rfl (by kernel_rfl) (by kernel_rfl) (by kernel_rfl) (fun _ _ _ h => h) (Or.inr ⟨by rfl, rfl⟩) (by assumption) ?_
                try simp only [Act.put, List.getElem_toArray, List.getElem_cons_zero, List.getElem_cons_succ, List.setIfInBounds_toArray, List.set_cons_zero, List.set_cons_succ]
                refine wpAnyH_take (i := 30) (v := undef) rfl (by kernel_rfl) (by kernel_rfl) (by kernel_rfl) (fun _ _ _ h => h) (Or.inr ⟨by rfl, rfl⟩) (by assumption) ?_
                try simp only [Act.put, List.getElem_toArray, List.getElem_cons_zero, List.getElem_cons_succ, List.setIfInBounds_toArray, List.set_cons_zero, List.set_cons_succ]
                refine wpAnyH_take (i := 31) (v := undef) rfl (by kernel_rfl) (by kernel_rfl) (by kernel_rfl) (fun _ _ _ h => h) (Or.inr ⟨by rfl, rfl⟩) (by assumption) ?_
                try simp only [Act.put, List.getElem_toArray, List.getElem_cons_zero, List.getElem_cons_succ, List.setIfInBounds_toArray, List.set_cons_zero, List.set_cons_succ]
                refine wpAnyH_take (i := 32) (v := undef) rfl (by kernel_rfl) (by kernel_rfl) (by kernel_rfl) (fun _ _ _ h => h) (Or.inr ⟨by rfl, rfl⟩) (by assumption) ?_
                try simp only [Act.put, List.getElem_toArray, List.getElem_cons_zero, List.getElem_cons_succ, List.setIfInBounds_toArray, List.set_cons_zero, List.set_cons_succ]
                refine wpAnyH_take (i := 33) (v := undef) rfl (by kernel_rfl) (by kernel_rfl) (by kernel_rfl) (fun _ _ _ h => h) (Or.inr ⟨by rfl, rfl⟩) (by assumption) ?_
                try simp only [Act.put, List.getElem_toArray, List.getElem_cons_zero, List.getElem_cons_succ, List.setIfInBounds_toArray, List.set_cons_zero, List.set_cons_succ]
                refine wpAnyH_take (i := 34) (v := undef) rfl (by kernel_rfl) (by kernel_rfl) (by kernel_rfl) (fun _ _ _ h => h) (Or.inr ⟨by rfl, rfl⟩) (by assumption) ?_
                try simp only [Act.put, List.getElem_toArray, List.getElem_cons_zero, List.getElem_cons_succ, List.setIfInBounds_toArray, List.set_cons_zero, List.set_cons_succ]
                refine wpAnyH_take (i := 35) (v := undef) rfl (by kernel_rfl) (by kernel_rfl) (by kernel_rfl) (fun _ _ _ h => h) (Or.inr ⟨by rfl, rfl⟩) (by assumption) ?_
                try simp only [Act.put, List.getElem_toArray, List.getElem_cons_zero, List.getElem_cons_succ, List.setIfInBounds_toArray, List.set_cons_zero, List.set_cons_succ]
                refine wpAnyH_take (i := 36) (v := .bool false) rfl (by kernel_rfl) (by kernel_rfl) (by kernel_rfl) (fun _ _ _ h => h) (Or.inl ⟨by rfl, ?_⟩) (by assumption) ?_
                case refine_1 => intro W hSw; go_simp; try rfl
                try simp only [Act.put, List.getElem_toArray, List.getElem_cons_zero, List.getElem_cons_succ, List.setIfInBounds_toArray, List.set_cons_zero, List.set_cons_succ]
                refine wpAnyH_done (by kernel_rfl) ?_ _
                clear hHeld
                go_wp2_with fail
                go_meet
                exact ⟨by rw [HE.out], HBD.out⟩
              case pos =>
                have hkl : k < outs.length := by rw [HON.out]; exact hkn
                have hki : (k : Int) < (on : Int) := by omega
                have hk0 : (0 : Int) ≤ (k : Int) := by omega
                obtain ⟨gb, gf, rfl, hgl, hgc⟩ := HR.out.oo.own.lst.1.cells k hkl
                obtain ⟨⟨y1, y2⟩, hy⟩ : ∃ y, outs[k] = y := ⟨_, rfl⟩
                rw [hy] at hgc
                have hrk := HRK.out
                rw [rK_at hkl, hy] at hrk
                have HRP : Hid (plB (y1, y2) (x1, x2) = r) := hrk
                have HS0 : Hid (SB MkK b9 (mkL ⟨(x1, x2), xv, xs, xh, false⟩) WX.drew ∧ WX.drew.cell? ⟨gb, gf + k * 2, none⟩ = some (.int .u32 y1) ∧ WX.drew.cell? ⟨gb, gf + k * 2 + 1, none⟩ = some (.int .i64 y2)) := ⟨(HR.out.bx.step (drew_bel WX)).get 2 rfl, hgc 0 (by decide), hgc 1 (by decide)⟩
                refine wp_region_held_drew (S := fun W => SB MkK b9 (mkL ⟨(x1, x2), xv, xs, xh, false⟩) W ∧ W.cell? ⟨gb, gf + k * 2, none⟩ = some (.int .u32 y1) ∧ W.cell? ⟨gb, gf + k * 2 + 1, none⟩ = some (.int .i64 y2)) (by kernel_rfl) HS0.out (fun hHeld => ?_)
                obtain ⟨wd, hwd⟩ : ∃ z, WX.drew = z := ⟨_, rfl⟩
                rw [hwd] at HBD hHeld ⊢
                clear hwd HS0 hy hrk hgc hgl
                by_cases hy1 : y1 < x1
                case pos =>
                  have HE : Hid (r = true) := by show _ = _; rw [← HRP.out]; unfold plB; simp [hy1]
                  refine wpAnyH_take (i := 0) (v := .int .i64 (k : Int)) rfl (by kernel_rfl) (by kernel_rfl) (by kernel_rfl) (fun _ _ _ h => h) (Or.inl ⟨by rfl, ?_⟩) (by assumption) ?_
                  case refine_1 => intro W hSw; go_simp; try rfl
                  try simp only [Act.put, List.getElem_toArray, List.getElem_cons_zero, List.getElem_cons_succ, List.setIfInBounds_toArray, List.set_cons_zero, List.set_cons_succ]
                  refine wpAnyH_take (i := 1) (v := .slice (some ⟨gb, gf, none⟩) on oc) rfl (by kernel_rfl) (by kernel_rfl) (by kernel_rfl) (fun _ _ _ h => h) (Or.inl ⟨by rfl, ?_⟩) (by assumption) ?_
                  case refine_1 => intro W hSw; go_simp; try rfl
                  try simp only [Act.put, List.getElem_toArray, List.getElem_cons_zero, List.getElem_cons_succ, List.setIfInBounds_toArray, List.set_cons_zero, List.set_cons_succ]
                  refine wpAnyH_take (i := 2) (v := .int .i64 (on : Int)) rfl (by kernel_rfl) (by kernel_rfl) (by kernel_rfl) (fun _ _ _ h => h) (Or.inl ⟨by rfl, ?_⟩) (by assumption) ?_
                  case refine_1 => intro W hSw; go_simp; try rfl
                  try simp only [Act.put, List.getElem_toArray, List.getElem_cons_zero, List.getElem_cons_succ, List.setIfInBounds_toArray, List.set_cons_zero, List.set_cons_succ]
                  refine wpAnyH_take (i := 3) (v := .bool true) rfl (by kernel_rfl) (by kernel_rfl) (by kernel_rfl) (fun _ _ _ h => h) (Or.inl ⟨by rfl, ?_⟩) (by assumption) ?_
                  case refine_1 => intro W hSw; go_simp; try rfl
                  try simp only [Act.put, List.getElem_toArray, List.getElem_cons_zero, List.getElem_cons_succ, List.setIfInBounds_toArray, List.set_cons_zero, List.set_cons_succ]
                  refine wpAnyH_take (i := 4) (v := .bool true) rfl (by kernel_rfl) (by kernel_rfl) (by kernel_rfl) (fun _ _ _ h => h) (Or.inl ⟨by rfl, ?_⟩) (by assumption) ?_
                  case refine_1 => intro W hSw; go_simp; try rfl
                  try simp only [Act.put, List.getElem_toArray, List.getElem_cons_zero, List.getElem_cons_succ, List.setIfInBounds_toArray, List.set_cons_zero, List.set_cons_succ]
                  refine wpAnyH_take (i := 5) (v := .slice (some ⟨gb, gf, none⟩) on oc) rfl (by kernel_rfl) (by kernel_rfl) (by kernel_rfl) (fun _ _ _ h => h) (Or.inl ⟨by rfl, ?_⟩) (by assumption) ?_
                  case refine_1 => intro W hSw; go_simp; try rfl
                  try simp only [Act.put, List.getElem_toArray, List.getElem_cons_zero, List.getElem_cons_succ, List.setIfInBounds_toArray, List.set_cons_zero, List.set_cons_succ]
                  refine wpAnyH_take (i := 6) (v := .int .i64 (k : Int)) rfl (by kernel_rfl) (by kernel_rfl) (by kernel_rfl) (fun _ _ _ h => h) (Or.inl ⟨by rfl, ?_⟩) (by assumption) ?_
                  case refine_1 => intro W hSw; go_simp; try rfl
                  try simp only [Act.put, List.getElem_toArray, List.getElem_cons_zero, List.getElem_cons_succ, List.setIfInBounds_toArray, List.set_cons_zero, List.set_cons_succ]
                  refine wpAnyH_take (i := 7) (v := .pointer (some ⟨gb, gf + k * 2, none⟩)) rfl (by kernel_rfl) (by kernel_rfl) (by kernel_rfl) (fun _ _ _ h => h) (Or.inl ⟨by rfl, ?_⟩) (by assumption) ?_
                  case refine_1 => intro W hSw; go_simp; try rfl
                  try simp only [Act.put, List.getElem_toArray, List.getElem_cons_zero, List.getElem_cons_succ, List.setIfInBounds_toArray, List.set_cons_zero, List.set_cons_succ]
                  refine wpAnyH_take (i := 8) (v := .pointer (some ⟨gb, gf + k * 2, none⟩)) rfl (by kernel_rfl) (by kernel_rfl) (by kernel_rfl) (fun _ _ _ h => h) (Or.inl ⟨by rfl, ?_⟩) (by assumption) ?_
                  case refine_1 => intro W hSw; go_simp; try rfl
                  try simp only [Act.put, List.getElem_toArray, List.getElem_cons_zero, List.getElem_cons_succ, List.setIfInBounds_toArray, List.set_cons_zero, List.set_cons_succ]
                  refine wpAnyH_take (i := 9) (v := .int .u32 y1) rfl (by kernel_rfl) (by kernel_rfl) (by kernel_rfl) (fun _ _ _ h => h) (Or.inl ⟨by rfl, ?_⟩) (by assumption) ?_
                  case refine_1 => intro W hSw; have k8 := hSw.2.1; go_simp; try rfl
                  try simp only [Act.put, List.getElem_toArray, List.getElem_cons_zero, List.getElem_cons_succ, List.setIfInBounds_toArray, List.set_cons_zero, List.set_cons_succ]
                  refine wpAnyH_take (i := 10) (v := .pointer (some ⟨b9, 0, none⟩)) rfl (by kernel_rfl) (by kernel_rfl) (by kernel_rfl) (fun _ _ _ h => h) (Or.inl ⟨by rfl, ?_⟩) (by assumption) ?_
                  case refine_1 => intro W hSw; go_simp; try rfl
                  try simp only [Act.put, List.getElem_toArray, List.getElem_cons_zero, List.getElem_cons_succ, List.setIfInBounds_toArray, List.set_cons_zero, List.set_cons_succ]
                  refine wpAnyH_take (i := 11) (v := .pointer (some ⟨b9, 0, none⟩)) rfl (by kernel_rfl) (by kernel_rfl) (by kernel_rfl) (fun _ _ _ h => h) (Or.inl ⟨by rfl, ?_⟩) (by assumption) ?_
                  case refine_1 => intro W hSw; go_simp; try rfl
                  try simp only [Act.put, List.getElem_toArray, List.getElem_cons_zero, List.getElem_cons_succ, List.setIfInBounds_toArray, List.set_cons_zero, List.set_cons_succ]
                  refine wpAnyH_take (i := 12) (v := .int .u32 x1) rfl (by kernel_rfl) (by kernel_rfl) (by kernel_rfl) (fun _ _ _ h => h) (Or.inl ⟨by rfl, ?_⟩) (by assumption) ?_
                  case refine_1 => intro W hSw; have k9 : W.cell? ⟨b9, 0, none⟩ = some (.int .u32 x1) := hSw.1.cell 0; go_simp; try rfl
                  try simp only [Act.put, List.getElem_toArray, List.getElem_cons_zero, List.getElem_cons_succ, List.setIfInBounds_toArray, List.set_cons_zero, List.set_cons_succ]
                  refine wpAnyH_take (i := 13) (v := .bool true) rfl (by kernel_rfl) (by kernel_rfl) (by kernel_rfl) (fun _ _ _ h => h) (Or.inl ⟨by rfl, ?_⟩) (by assumption) ?_
                  case refine_1 => intro W hSw; go_simp; try rfl
                  try simp only [Act.put, List.getElem_toArray, List.getElem_cons_zero, List.getElem_cons_succ, List.setIfInBounds_toArray, List.set_cons_zero, List.set_cons_succ]
                  refine wpAnyH_take (i := 14) (v := .bool true) rfl (by kernel_rfl) (by kernel_rfl) (by kernel_rfl) (fun _ _ _ h => h) (Or.inl ⟨by rfl, ?_⟩) (by assumption) ?_
                  case refine_1 => intro W hSw; go_simp; try rfl
                  try simp only [Act.put, List.getElem_toArray, List.getElem_cons_zero, List.getElem_cons_succ, List.setIfInBounds_toArray, List.set_cons_zero, List.set_cons_succ]
                  refine wpAnyH_take (i := 15) (v := undef) rfl (by kernel_rfl) (by kernel_rfl) (by kernel_rfl) (fun _ _ _ h => h) (Or.inr ⟨by rfl, rfl⟩) (by assumption) ?_
                  try simp only [Act.put, List.getElem_toArray, List.getElem_cons_zero, List.getElem_cons_succ, List.setIfInBounds_toArray, List.set_cons_zero, List.set_cons_succ]
                  refine wpAnyH_take (i := 16) (v := undef) rfl (by kernel_rfl) (by kernel_rfl) (by kernel_rfl) (fun _ _ _ h => h) (Or.inr ⟨by rfl, rfl⟩) (by assumption) ?_
                  try simp only [Act.put, List.getElem_toArray, List.getElem_cons_zero, List.getElem_cons_succ, List.setIfInBounds_toArray, List.set_cons_zero, List.set_cons_succ]
                  refine wpAnyH_take (i := 17) (v := undef) rfl (by kernel_rfl) (by kernel_rfl) (by kernel_rfl) (fun _ _ _ h => h) (Or.inr ⟨by rfl, rfl⟩) (by assumption) ?_
                  try simp only [Act.put, List.getElem_toArray, List.getElem_cons_zero, List.getElem_cons_succ, List.setIfInBounds_toArray, List.set_cons_zero, List.set_cons_succ]
                  refine wpAnyH_take (i := 18) (v := undef) rfl (by kernel_rfl) (by kernel_rfl) (by kernel_rfl) (fun _ _ _ h => h) (Or.inr ⟨by rfl, rfl⟩) (by assumption) ?_
                  try simp only [Act.put, List.getElem_toArray, List.getElem_cons_zero, List.getElem_cons_succ, List.setIfInBounds_toArray, List.set_cons_zero, List.set_cons_succ]
                  refine wpAnyH_take (i := 19) (v := undef) rfl (by kernel_rfl) (by kernel_rfl) (by kernel_rfl) (fun _ _ _ h => h) (Or.inr ⟨by rfl, rfl⟩) (by assumption) ?_
                  try simp only [Act.put, List.getElem_toArray, List.getElem_cons_zero, List.getElem_cons_succ, List.setIfInBounds_toArray, List.set_cons_zero, List.set_cons_succ]
                  refine wpAnyH_take (i := 20) (v := undef) rfl (by kernel_rfl) (by kernel_rfl) (by kernel_rfl) (fun _ _ _ h => h) (Or.inr ⟨by rfl, rfl⟩) (by assumption) ?_
                  try simp only [Act.put, List.getElem_toArray, List.getElem_cons_zero, List.getElem_cons_succ, List.setIfInBounds_toArray, List.set_cons_zero, List.set_cons_succ]
                  refine wpAnyH_take (i := 21) (v := undef) rfl (by kernel_rfl) (by kernel_rfl) (by kernel_rfl) (fun _ _ _ h => h) (Or.inr ⟨by rfl, rfl⟩) (by assumption) ?_
                  try simp only [Act.put, List.getElem_toArray, List.getElem_cons_zero, List.getElem_cons_succ, List.setIfInBounds_toArray, List.set_cons_zero, List.set_cons_succ]
                  refine wpAnyH_take (i := 22) (v := undef) rfl (by kernel_rfl) (by kernel_rfl) (by kernel_rfl) (fun _ _ _ h => h) (Or.inr ⟨by rfl, rfl⟩) (by assumption) ?_
                  try simp only [Act.put, List.getElem_toArray, List.getElem_cons_zero, List.getElem_cons_succ, List.setIfInBounds_toArray, List.set_cons_zero, List.set_cons_succ]
                  refine wpAnyH_take (i := 23) (v := undef) rfl (by kernel_rfl) (by kernel_rfl) (by kernel_rfl) (fun _ _ _ h => h) (Or.inr ⟨by rfl, rfl⟩) (by assumption) ?_
                  try simp only [Act.put, List.getElem_toArray, List.getElem_cons_zero, List.getElem_cons_succ, List.setIfInBounds_toArray, List.set_cons_zero, List.set_cons_succ]
                  refine wpAnyH_take (i := 24) (v := undef) rfl (by kernel_rfl) (by kernel_rfl) (by kernel_rfl) (fun _ _ _ h => h) (Or.inr ⟨by rfl, rfl⟩) (by assumption) ?_
                  try simp only [Act.put, List.getElem_toArray, List.getElem_cons_zero, List.getElem_cons_succ, List.setIfInBounds_toArray, List.set_cons_zero, List.set_cons_succ]
                  refine wpAnyH_take (i := 25) (v := undef) rfl (by kernel_rfl) (by kernel_rfl) (by kernel_rfl) (fun _ _ _ h => h) (Or.inr ⟨by rfl, rfl⟩) (by assumption) ?_
                  try simp only [Act.put, List.getElem_toArray, List.getElem_cons_zero, List.getElem_cons_succ, List.setIfInBounds_toArray, List.set_cons_zero, List.set_cons_succ]
                  refine wpAnyH_take (i := 26) (v := undef) rfl (by kernel_rfl) (by kernel_rfl) (by kernel_rfl) (fun _ _ _ h => h) (Or.inr ⟨by rfl, rfl⟩) (by assumption) ?_
                  try simp only [Act.put, List.getElem_toArray, List.getElem_cons_zero, List.getElem_cons_succ, List.setIfInBounds_toArray, List.set_cons_zero, List.set_cons_succ]
                  refine wpAnyH_take (i := 27) (v := undef) rfl (by kernel_rfl) (by kernel_rfl) (by kernel_rfl) (fun _ _ _ h => h) (Or.inr ⟨by rfl, rfl⟩) (by assumption) ?_
                  try simp only [Act.put, List.getElem_toArray, List.getElem_cons_zero, List.getElem_cons_succ, List.setIfInBounds_toArray, List.set_cons_zero, List.set_cons_succ]
                  refine wpAnyH_take (i := 28) (v := undef) rfl (by kernel_rfl) (by kernel_rfl) (by kernel_rfl) (fun _ _ _ h => h) (Or.inr ⟨by rfl, rfl⟩) (by assumption) ?_
                  try simp only [Act.put, List.getElem_toArray, List.getElem_cons_zero, List.getElem_cons_succ, List.setIfInBounds_toArray, List.set_cons_zero, List.set_cons_succ]
                  refine wpAnyH_take (i := 29) (v := undef) rfl (by kernel_rfl) (by kernel_rfl) (by kernel_rfl) (fun _ _ _ h => h) (Or.inr ⟨by rfl, rfl⟩) (by assumption) ?_
                  try simp only [Act.put, List.getElem_toArray, List.getElem_cons_zero, List.getElem_cons_succ, List.setIfInBounds_toArray, List.set_cons_zero, List.set_cons_succ]
                  refine wpAnyH_take (i := 30) (v := undef) rfl (by kernel_rfl) (by kernel_rfl) (by kernel_rfl) (fun _ _ _ h => h) (Or.inr ⟨by rfl, rfl⟩) (by assumption) ?_
                  try simp only [Act.put, List.getElem_toArray, List.getElem_cons_zero, List.getElem_cons_succ, List.setIfInBounds_toArray, List.set_cons_zero, List.set_cons_succ]
                  refine wpAnyH_take (i := 31) (v := undef) rfl (by kernel_rfl) (by kernel_rfl) (by kernel_rfl) (fun _ _ _ h => h) (Or.inr ⟨by rfl, rfl⟩) (by assumption) ?_
                  try simp only [Act.put, List.getElem_toArray, List.getElem_cons_zero, List.getElem_cons_succ, List.setIfInBounds_toArray, List.set_cons_zero, List.set_cons_succ]
                  refine wpAnyH_take (i := 32) (v := undef) rfl (by kernel_rfl) (by kernel_rfl) (by kernel_rfl) (fun _ _ _ h => h) (Or.inr ⟨by rfl, rfl⟩) (by assumption) ?_
                  try simp only [Act.put, List.getElem_toArray, List.getElem_cons_zero, List.getElem_cons_succ, List.setIfInBounds_toArray, List.set_cons_zero, List.set_cons_succ]
                  refine wpAnyH_take (i := 33) (v := undef) rfl (by kernel_rfl) (by kernel_rfl) (by kernel_rfl) (fun _ _ _ h => h) (Or.inr ⟨by rfl, rfl⟩) (by assumption) ?_
                  try simp only [Act.put, List.getElem_toArray, List.getElem_cons_zero, List.getElem_cons_succ, List.setIfInBounds_toArray, List.set_cons_zero, List.set_cons_succ]
                  refine wpAnyH_take (i := 34) (v := undef) rfl (by kernel_rfl) (by kernel_rfl) (by kernel_rfl) (fun _ _ _ h => h) (Or.inr ⟨by rfl, rfl⟩) (by assumption) ?_
                  try simp only [Act.put, List.getElem_toArray, List.getElem_cons_zero, List.getElem_cons_succ, List.setIfInBounds_toArray, List.set_cons_zero, List.set_cons_succ]
                  refine wpAnyH_take (i := 35) (v := .bool true) rfl (by kernel_rfl) (by kernel_rfl) (by kernel_rfl) (fun _ _ _ h => h) (Or.inl ⟨by rfl, ?_⟩) (by assumption) ?_
                  case refine_1 => intro W hSw; go_simp; try rfl
                  try simp only [Act.put, List.getElem_toArray, List.getElem_cons_zero, List.getElem_cons_succ, List.setIfInBounds_toArray, List.set_cons_zero, List.set_cons_succ]
                  refine wpAnyH_take (i := 36) (v := .bool true) rfl (by kernel_rfl) (by kernel_rfl) (by kernel_rfl) (fun _ _ _ h => h) (Or.inl ⟨by rfl, ?_⟩) (by assumption) ?_
                  case refine_1 => intro W hSw; go_simp; try rfl
                  try simp only [Act.put, List.getElem_toArray, List.getElem_cons_zero, List.getElem_cons_succ, List.setIfInBounds_toArray, List.set_cons_zero, List.set_cons_succ]
                  refine wpAnyH_done (by kernel_rfl) ?_ _
                  clear hHeld
                  go_wp2_with fail
                  go_meet
                  exact ⟨by rw [HE.out], HBD.out⟩
                case neg =>
                  by_cases hye : y1 = x1
                  case neg =>
                    have hyb := beq_false_of_ne hye
                    have HE : Hid (r = false) := by show _ = _; rw [← HRP.out]; unfold plB; simp [hy1, hye]
                    clear hye
                    refine wpAnyH_take (i := 0) (v := .int .i64 (k : Int)) rfl (by kernel_rfl) (by kernel_rfl) (by kernel_rfl) (fun _ _ _ h => h) (Or.inl ⟨by rfl, ?_⟩) (by assumption) ?_
                    case refine_1 => intro W hSw; go_simp; try rfl
                    try simp only [Act.put, List.getElem_toArray, List.getElem_cons_zero, List.getElem_cons_succ, List.setIfInBounds_toArray, List.set_cons_zero, List.set_cons_succ]
                    refine wpAnyH_take (i := 1) (v := .slice (some ⟨gb, gf, none⟩) on oc) rfl (by kernel_rfl) (by kernel_rfl) (by kernel_rfl) (fun _ _ _ h => h) (Or.inl ⟨by rfl, ?_⟩) (by assumption) ?_
                    case refine_1 => intro W hSw; go_simp; try rfl
                    try simp only [Act.put, List.getElem_toArray, List.getElem_cons_zero, List.getElem_cons_succ, List.setIfInBounds_toArray, List.set_cons_zero, List.set_cons_succ]
                    refine wpAnyH_take (i := 2) (v := .int .i64 (on : Int)) rfl (by kernel_rfl) (by kernel_rfl) (by kernel_rfl) (fun _ _ _ h => h) (Or.inl ⟨by rfl, ?_⟩) (by assumption) ?_
                    case refine_1 => intro W hSw; go_simp; try rfl
                    try simp only [Act.put, List.getElem_toArray, List.getElem_cons_zero, List.getElem_cons_succ, List.setIfInBounds_toArray, List.set_cons_zero, List.set_cons_succ]
                    refine wpAnyH_take (i := 3) (v := .bool true) rfl (by kernel_rfl) (by kernel_rfl) (by kernel_rfl) (fun _ _ _ h => h) (Or.inl ⟨by rfl, ?_⟩) (by assumption) ?_
                    case refine_1 => intro W hSw; go_simp; try rfl
                    try simp only [Act.put, List.getElem_toArray, List.getElem_cons_zero, List.getElem_cons_succ, List.setIfInBounds_toArray, List.set_cons_zero, List.set_cons_succ]
                    refine wpAnyH_take (i := 4) (v := .bool true) rfl (by kernel_rfl) (by kernel_rfl) (by kernel_rfl) (fun _ _ _ h => h) (Or.inl ⟨by rfl, ?_⟩) (by assumption) ?_
                    case refine_1 => intro W hSw; go_simp; try rfl
                    try simp only [Act.put, List.getElem_toArray, List.getElem_cons_zero, List.getElem_cons_succ, List.setIfInBounds_toArray, List.set_cons_zero, List.set_cons_succ]
                    refine wpAnyH_take (i := 5) (v := .slice (some ⟨gb, gf, none⟩) on oc) rfl (by kernel_rfl) (by kernel_rfl) (by kernel_rfl) (fun _ _ _ h => h) (Or.inl ⟨by rfl, ?_⟩) (by assumption) ?_
                    case refine_1 => intro W hSw; go_simp; try rfl
                    try simp only [Act.put, List.getElem_toArray, List.getElem_cons_zero, List.getElem_cons_succ, List.setIfInBounds_toArray, List.set_cons_zero, List.set_cons_succ]
                    refine wpAnyH_take (i := 6) (v := .int .i64 (k : Int)) rfl (by kernel_rfl) (by kernel_rfl) (by kernel_rfl) (fun _ _ _ h => h) (Or.inl ⟨by rfl, ?_⟩) (by assumption) ?_
                    case refine_1 => intro W hSw; go_simp; try rfl
                    try simp only [Act.put, List.getElem_toArray, List.getElem_cons_zero, List.getElem_cons_succ, List.setIfInBounds_toArray, List.set_cons_zero, List.set_cons_succ]
                    refine wpAnyH_take (i := 7) (v := .pointer (some ⟨gb, gf + k * 2, none⟩)) rfl (by kernel_rfl) (by kernel_rfl) (by kernel_rfl) (fun _ _ _ h => h) (Or.inl ⟨by rfl, ?_⟩) (by assumption) ?_
                    case refine_1 => intro W hSw; go_simp; try rfl
                    try simp only [Act.put, List.getElem_toArray, List.getElem_cons_zero, List.getElem_cons_succ, List.setIfInBounds_toArray, List.set_cons_zero, List.set_cons_succ]
                    refine wpAnyH_take (i := 8) (v := .pointer (some ⟨gb, gf + k * 2, none⟩)) rfl (by kernel_rfl) (by kernel_rfl) (by kernel_rfl) (fun _ _ _ h => h) (Or.inl ⟨by rfl, ?_⟩) (by assumption) ?_
                    case refine_1 => intro W hSw; go_simp; try rfl
                    try simp only [Act.put, List.getElem_toArray, List.getElem_cons_zero, List.getElem_cons_succ, List.setIfInBounds_toArray, List.set_cons_zero, List.set_cons_succ]
                    refine wpAnyH_take (i := 9) (v := .int .u32 y1) rfl (by kernel_rfl) (by kernel_rfl) (by kernel_rfl) (fun _ _ _ h => h) (Or.inl ⟨by rfl, ?_⟩) (by assumption) ?_
                    case refine_1 => intro W hSw; have k8 := hSw.2.1; go_simp; try rfl
                    try simp only [Act.put, List.getElem_toArray, List.getElem_cons_zero, List.getElem_cons_succ, List.setIfInBounds_toArray, List.set_cons_zero, List.set_cons_succ]
                    refine wpAnyH_take (i := 10) (v := .pointer (some ⟨b9, 0, none⟩)) rfl (by kernel_rfl) (by kernel_rfl) (by kernel_rfl) (fun _ _ _ h => h) (Or.inl ⟨by rfl, ?_⟩) (by assumption) ?_
                    case refine_1 => intro W hSw; go_simp; try rfl
                    try simp only [Act.put, List.getElem_toArray, List.getElem_cons_zero, List.getElem_cons_succ, List.setIfInBounds_toArray, List.set_cons_zero, List.set_cons_succ]
                    refine wpAnyH_take (i := 11) (v := .pointer (some ⟨b9, 0, none⟩)) rfl (by kernel_rfl) (by kernel_rfl) (by kernel_rfl) (fun _ _ _ h => h) (Or.inl ⟨by rfl, ?_⟩) (by assumption) ?_
                    case refine_1 => intro W hSw; go_simp; try rfl
                    try simp only [Act.put, List.getElem_toArray, List.getElem_cons_zero, List.getElem_cons_succ, List.setIfInBounds_toArray, List.set_cons_zero, List.set_cons_succ]
                    refine wpAnyH_take (i := 12) (v := .int .u32 x1) rfl (by kernel_rfl) (by kernel_rfl) (by kernel_rfl) (fun _ _ _ h => h) (Or.inl ⟨by rfl, ?_⟩) (by assumption) ?_
                    case refine_1 => intro W hSw; have k9 : W.cell? ⟨b9, 0, none⟩ = some (.int .u32 x1) := hSw.1.cell 0; go_simp; try rfl
                    try simp only [Act.put, List.getElem_toArray, List.getElem_cons_zero, List.getElem_cons_succ, List.setIfInBounds_toArray, List.set_cons_zero, List.set_cons_succ]
                    refine wpAnyH_take (i := 13) (v := .bool false) rfl (by kernel_rfl) (by kernel_rfl) (by kernel_rfl) (fun _ _ _ h => h) (Or.inl ⟨by rfl, ?_⟩) (by assumption) ?_
                    case refine_1 => intro W hSw; go_simp; try rfl
                    try simp only [Act.put, List.getElem_toArray, List.getElem_cons_zero, List.getElem_cons_succ, List.setIfInBounds_toArray, List.set_cons_zero, List.set_cons_succ]
                    refine wpAnyH_take (i := 14) (v := .bool false) rfl (by kernel_rfl) (by kernel_rfl) (by kernel_rfl) (fun _ _ _ h => h) (Or.inl ⟨by rfl, ?_⟩) (by assumption) ?_
                    case refine_1 => intro W hSw; go_simp; try rfl
                    try simp only [Act.put, List.getElem_toArray, List.getElem_cons_zero, List.getElem_cons_succ, List.setIfInBounds_toArray, List.set_cons_zero, List.set_cons_succ]
                    refine wpAnyH_take (i := 15) (v := .slice (some ⟨gb, gf, none⟩) on oc) rfl (by kernel_rfl) (by kernel_rfl) (by kernel_rfl) (fun _ _ _ h => h) (Or.inl ⟨by rfl, ?_⟩) (by assumption) ?_
                    case refine_1 => intro W hSw; go_simp; try rfl
                    try simp only [Act.put, List.getElem_toArray, List.getElem_cons_zero, List.getElem_cons_succ, List.setIfInBounds_toArray, List.set_cons_zero, List.set_cons_succ]
                    refine wpAnyH_take (i := 16) (v := .int .i64 (k : Int)) rfl (by kernel_rfl) (by kernel_rfl) (by kernel_rfl) (fun _ _ _ h => h) (Or.inl ⟨by rfl, ?_⟩) (by assumption) ?_
                    case refine_1 => intro W hSw; go_simp; try rfl
                    try simp only [Act.put, List.getElem_toArray, List.getElem_cons_zero, List.getElem_cons_succ, List.setIfInBounds_toArray, List.set_cons_zero, List.set_cons_succ]
                    refine wpAnyH_take (i := 17) (v := .pointer (some ⟨gb, gf + k * 2, none⟩)) rfl (by kernel_rfl) (by kernel_rfl) (by kernel_rfl) (fun _ _ _ h => h) (Or.inl ⟨by rfl, ?_⟩) (by assumption) ?_
                    case refine_1 => intro W hSw; go_simp; try rfl
                    try simp only [Act.put, List.getElem_toArray, List.getElem_cons_zero, List.getElem_cons_succ, List.setIfInBounds_toArray, List.set_cons_zero, List.set_cons_succ]
                    refine wpAnyH_take (i := 18) (v := .pointer (some ⟨gb, gf + k * 2, none⟩)) rfl (by kernel_rfl) (by kernel_rfl) (by kernel_rfl) (fun _ _ _ h => h) (Or.inl ⟨by rfl, ?_⟩) (by assumption) ?_
                    case refine_1 => intro W hSw; go_simp; try rfl
                    try simp only [Act.put, List.getElem_toArray, List.getElem_cons_zero, List.getElem_cons_succ, List.setIfInBounds_toArray, List.set_cons_zero, List.set_cons_succ]
                    refine wpAnyH_take (i := 19) (v := .int .u32 y1) rfl (by kernel_rfl) (by kernel_rfl) (by kernel_rfl) (fun _ _ _ h => h) (Or.inl ⟨by rfl, ?_⟩) (by assumption) ?_
                    case refine_1 => intro W hSw; have k8 := hSw.2.1; go_simp; try rfl
                    try simp only [Act.put, List.getElem_toArray, List.getElem_cons_zero, List.getElem_cons_succ, List.setIfInBounds_toArray, List.set_cons_zero, List.set_cons_succ]
                    refine wpAnyH_take (i := 20) (v := .pointer (some ⟨b9, 0, none⟩)) rfl (by kernel_rfl) (by kernel_rfl) (by kernel_rfl) (fun _ _ _ h => h) (Or.inl ⟨by rfl, ?_⟩) (by assumption) ?_
                    case refine_1 => intro W hSw; go_simp; try rfl
                    try simp only [Act.put, List.getElem_toArray, List.getElem_cons_zero, List.getElem_cons_succ, List.setIfInBounds_toArray, List.set_cons_zero, List.set_cons_succ]
                    refine wpAnyH_take (i := 21) (v := .pointer (some ⟨b9, 0, none⟩)) rfl (by kernel_rfl) (by kernel_rfl) (by kernel_rfl) (fun _ _ _ h => h) (Or.inl ⟨by rfl, ?_⟩) (by assumption) ?_
                    case refine_1 => intro W hSw; go_simp; try rfl
                    try simp only [Act.put, List.getElem_toArray, List.getElem_cons_zero, List.getElem_cons_succ, List.setIfInBounds_toArray, List.set_cons_zero, List.set_cons_succ]
                    refine wpAnyH_take (i := 22) (v := .int .u32 x1) rfl (by kernel_rfl) (by kernel_rfl) (by kernel_rfl) (fun _ _ _ h => h) (Or.inl ⟨by rfl, ?_⟩) (by assumption) ?_
                    case refine_1 => intro W hSw; have k9 : W.cell? ⟨b9, 0, none⟩ = some (.int .u32 x1) := hSw.1.cell 0; go_simp; try rfl
                    try simp only [Act.put, List.getElem_toArray, List.getElem_cons_zero, List.getElem_cons_succ, List.setIfInBounds_toArray, List.set_cons_zero, List.set_cons_succ]
                    refine wpAnyH_take (i := 23) (v := .bool false) rfl (by kernel_rfl) (by kernel_rfl) (by kernel_rfl) (fun _ _ _ h => h) (Or.inl ⟨by rfl, ?_⟩) (by assumption) ?_
                    case refine_1 => intro W hSw; go_simp; try rfl
                    try simp only [Act.put, List.getElem_toArray, List.getElem_cons_zero, List.getElem_cons_succ, List.setIfInBounds_toArray, List.set_cons_zero, List.set_cons_succ]
                    refine wpAnyH_take (i := 24) (v := .bool false) rfl (by kernel_rfl) (by kernel_rfl) (by kernel_rfl) (fun _ _ _ h => h) (Or.inl ⟨by rfl, ?_⟩) (by assumption) ?_
                    case refine_1 => intro W hSw; go_simp; try rfl
                    try simp only [Act.put, List.getElem_toArray, List.getElem_cons_zero, List.getElem_cons_succ, List.setIfInBounds_toArray, List.set_cons_zero, List.set_cons_succ]
                    refine wpAnyH_take (i := 25) (v := undef) rfl (by kernel_rfl) (by kernel_rfl) (by kernel_rfl) (fun _ _ _ h => h) (Or.inr ⟨by rfl, rfl⟩) (by assumption) ?_
                    try simp only [Act.put, List.getElem_toArray, List.getElem_cons_zero, List.getElem_cons_succ, List.setIfInBounds_toArray, List.set_cons_zero, List.set_cons_succ]
                    refine wpAnyH_take (i := 26) (v := undef) rfl (by kernel_rfl) (by kernel_rfl) (by kernel_rfl) (fun _ _ _ h => h) (Or.inr ⟨by rfl, rfl⟩) (by assumption) ?_
                    try simp only [Act.put, List.getElem_toArray, List.getElem_cons_zero, List.getElem_cons_succ, List.setIfInBounds_toArray, List.set_cons_zero, List.set_cons_succ]
                    refine wpAnyH_take (i := 27) (v := undef) rfl (by kernel_rfl) (by kernel_rfl) (by kernel_rfl) (fun _ _ _ h => h) (Or.inr ⟨by rfl, rfl⟩) (by assumption) ?_
                    try simp only [Act.put, List.getElem_toArray, List.getElem_cons_zero, List.getElem_cons_succ, List.setIfInBounds_toArray, List.set_cons_zero, List.set_cons_succ]
                    refine wpAnyH_take (i := 28) (v := undef) rfl (by kernel_rfl) (by kernel_rfl) (by kernel_rfl) (fun _ _ _ h => h) (Or.inr ⟨by rfl, rfl⟩) (by assumption) ?_
                    try simp only [Act.put, List.getElem_toArray, List.getElem_cons_zero, List.getElem_cons_succ, List.setIfInBounds_toArray, List.set_cons_zero, List.set_cons_succ]
                    refine wpAnyH_take (i := 29) (v := undef) rfl (by kernel_rfl) (by kernel_rfl) (by kernel_rfl) (fun _ _ _ h => h) (Or.inr ⟨by rfl, rfl⟩) (by assumption) ?_
                    try simp only [Act.put, List.getElem_toArray, List.getElem_cons_zero, List.getElem_cons_succ, List.setIfInBounds_toArray, List.set_cons_zero, List.set_cons_succ]
                    refine wpAnyH_take (i := 30) (v := undef) rfl (by kernel_rfl) (by kernel_rfl) (by kernel_rfl) (fun _ _ _ h => h) (Or.inr ⟨by rfl, rfl⟩) (by assumption) ?_
                    try simp only [Act.put, List.getElem_toArray, List.getElem_cons_zero, List.getElem_cons_succ, List.setIfInBounds_toArray, List.set_cons_zero, List.set_cons_succ]
                    refine wpAnyH_take (i := 31) (v := undef) rfl (by kernel_rfl) (by kernel_rfl) (by kernel_rfl) (fun _ _ _ h => h) (Or.inr ⟨by rfl, rfl⟩) (by assumption) ?_
                    try simp only [Act.put, List.getElem_toArray, List.getElem_cons_zero, List.getElem_cons_succ, List.setIfInBounds_toArray, List.set_cons_zero, List.set_cons_succ]
                    refine wpAnyH_take (i := 32) (v := undef) rfl (by kernel_rfl) (by kernel_rfl) (by kernel_rfl) (fun _ _ _ h => h) (Or.inr ⟨by rfl, rfl⟩) (by assumption) ?_
                    try simp only [Act.put, List.getElem_toArray, List.getElem_cons_zero, List.getElem_cons_succ, List.setIfInBounds_toArray, List.set_cons_zero, List.set_cons_succ]
                    refine wpAnyH_take (i := 33) (v := undef) rfl (by kernel_rfl) (by kernel_rfl) (by kernel_rfl) (fun _ _ _ h => h) (Or.inr ⟨by rfl, rfl⟩) (by assumption) ?_
                    try simp only [Act.put, List.getElem_toArray, List.getElem_cons_zero, List.getElem_cons_succ, List.setIfInBounds_toArray, List.set_cons_zero, List.set_cons_succ]
                    refine wpAnyH_take (i := 34) (v := .bool false) rfl (by kernel_rfl) (by kernel_rfl) (by kernel_rfl) (fun _ _ _ h => h) (Or.inl ⟨by rfl, ?_⟩) (by assumption) ?_
                    case refine_1 => intro W hSw; go_simp; try rfl
                    try simp only [Act.put, List.getElem_toArray, List.getElem_cons_zero, List.getElem_cons_succ, List.setIfInBounds_toArray, List.set_cons_zero, List.set_cons_succ]
                    refine wpAnyH_take (i := 35) (v := .bool false) rfl (by kernel_rfl) (by kernel_rfl) (by kernel_rfl) (fun _ _ _ h => h) (Or.inl ⟨by rfl, ?_⟩) (by assumption) ?_
                    case refine_1 => intro W hSw; go_simp; try rfl
                    try simp only [Act.put, List.getElem_toArray, List.getElem_cons_zero, List.getElem_cons_succ, List.setIfInBounds_toArray, List.set_cons_zero, List.set_cons_succ]
                    refine wpAnyH_take (i := 36) (v := .bool false) rfl (by kernel_rfl) (by kernel_rfl) (by kernel_rfl) (fun _ _ _ h => h) (Or.inl ⟨by rfl, ?_⟩) (by assumption) ?_
                    case refine_1 => intro W hSw; go_simp; try rfl
                    try simp only [Act.put, List.getElem_toArray, List.getElem_cons_zero, List.getElem_cons_succ, List.setIfInBounds_toArray, List.set_cons_zero, List.set_cons_succ]
                    refine wpAnyH_done (by kernel_rfl) ?_ _
                    clear hHeld
                    go_wp2_with fail
                    go_meet
                    exact ⟨by rw [HE.out], HBD.out⟩
                  case pos =>
                    obtain rfl : x1 = y1 := hye.symm
                    clear hy1 hye
                    by_cases hy2 : y2 < x2
                    case pos =>
                      have HE : Hid (r = true) := by show _ = _; rw [← HRP.out]; unfold plB; simp [hy2]
                      refine wpAnyH_take (i := 0) (v := .int .i64 (k : Int)) rfl (by kernel_rfl) (by kernel_rfl) (by kernel_rfl) (fun _ _ _ h => h) (Or.inl ⟨by rfl, ?_⟩) (by assumption) ?_
                      case refine_1 => intro W hSw; go_simp; try rfl
                      try simp only [Act.put, List.getElem_toArray, List.getElem_cons_zero, List.getElem_cons_succ, List.setIfInBounds_toArray, List.set_cons_zero, List.set_cons_succ]
                      refine wpAnyH_take (i := 1) (v := .slice (some ⟨gb, gf, none⟩) on oc) rfl (by kernel_rfl) (by kernel_rfl) (by kernel_rfl) (fun _ _ _ h => h) (Or.inl ⟨by rfl, ?_⟩) (by assumption) ?_
                      case refine_1 => intro W hSw; go_simp; try rfl
                      try simp only [Act.put, List.getElem_toArray, List.getElem_cons_zero, List.getElem_cons_succ, List.setIfInBounds_toArray, List.set_cons_zero, List.set_cons_succ]
                      refine wpAnyH_take (i := 2) (v := .int .i64 (on : Int)) rfl (by kernel_rfl) (by kernel_rfl) (by kernel_rfl) (fun _ _ _ h => h) (Or.inl ⟨by rfl, ?_⟩) (by assumption) ?_
                      case refine_1 => intro W hSw; go_simp; try rfl
                      try simp only [Act.put, List.getElem_toArray, List.getElem_cons_zero, List.getElem_cons_succ, List.setIfInBounds_toArray, List.set_cons_zero, List.set_cons_succ]
                      refine wpAnyH_take (i := 3) (v := .bool true) rfl (by kernel_rfl) (by kernel_rfl) (by kernel_rfl) (fun _ _ _ h => h) (Or.inl ⟨by rfl, ?_⟩) (by assumption) ?_
                      case refine_1 => intro W hSw; go_simp; try rfl
                      try simp only [Act.put, List.getElem_toArray, List.getElem_cons_zero, List.getElem_cons_succ, List.setIfInBounds_toArray, List.set_cons_zero, List.set_cons_succ]
                      refine wpAnyH_take (i := 4) (v := .bool true) rfl (by kernel_rfl) (by kernel_rfl) (by kernel_rfl) (fun _ _ _ h => h) (Or.inl ⟨by rfl, ?_⟩) (by assumption) ?_
                      case refine_1 => intro W hSw; go_simp; try rfl
                      try simp only [Act.put, List.getElem_toArray, List.getElem_cons_zero, List.getElem_cons_succ, List.setIfInBounds_toArray, List.set_cons_zero, List.set_cons_succ]
                      refine wpAnyH_take (i := 5) (v := .slice (some ⟨gb, gf, none⟩) on oc) rfl (by kernel_rfl) (by kernel_rfl) (by kernel_rfl) (fun _ _ _ h => h) (Or.inl ⟨by rfl, ?_⟩) (by assumption) ?_
                      case refine_1 => intro W hSw; go_simp; try rfl
                      try simp only [Act.put, List.getElem_toArray, List.getElem_cons_zero, List.getElem_cons_succ, List.setIfInBounds_toArray, List.set_cons_zero, List.set_cons_succ]
                      refine wpAnyH_take (i := 6) (v := .int .i64 (k : Int)) rfl (by kernel_rfl) (by kernel_rfl) (by kernel_rfl) (fun _ _ _ h => h) (Or.inl ⟨by rfl, ?_⟩) (by assumption) ?_
                      case refine_1 => intro W hSw; go_simp; try rfl
                      try simp only [Act.put, List.getElem_toArray, List.getElem_cons_zero, List.getElem_cons_succ, List.setIfInBounds_toArray, List.set_cons_zero, List.set_cons_succ]
                      refine wpAnyH_take (i := 7) (v := .pointer (some ⟨gb, gf + k * 2, none⟩)) rfl (by kernel_rfl) (by kernel_rfl) (by kernel_rfl) (fun _ _ _ h => h) (Or.inl ⟨by rfl, ?_⟩) (by assumption) ?_
                      case refine_1 => intro W hSw; go_simp; try rfl
                      try simp only [Act.put, List.getElem_toArray, List.getElem_cons_zero, List.getElem_cons_succ, List.setIfInBounds_toArray, List.set_cons_zero, List.set_cons_succ]
                      refine wpAnyH_take (i := 8) (v := .pointer (some ⟨gb, gf + k * 2, none⟩)) rfl (by kernel_rfl) (by kernel_rfl) (by kernel_rfl) (fun _ _ _ h => h) (Or.inl ⟨by rfl, ?_⟩) (by assumption) ?_
                      case refine_1 => intro W hSw; go_simp; try rfl
                      try simp only [Act.put, List.getElem_toArray, List.getElem_cons_zero, List.getElem_cons_succ, List.setIfInBounds_toArray, List.set_cons_zero, List.set_cons_succ]
                      refine wpAnyH_take (i := 9) (v := .int .u32 x1) rfl (by kernel_rfl) (by kernel_rfl) (by kernel_rfl) (fun _ _ _ h => h) (Or.inl ⟨by rfl, ?_⟩) (by assumption) ?_
                      case refine_1 => intro W hSw; have k8 := hSw.2.1; go_simp; try rfl
                      try simp only [Act.put, List.getElem_toArray, List.getElem_cons_zero, List.getElem_cons_succ, List.setIfInBounds_toArray, List.set_cons_zero, List.set_cons_succ]
                      refine wpAnyH_take (i := 10) (v := .pointer (some ⟨b9, 0, none⟩)) rfl (by kernel_rfl) (by kernel_rfl) (by kernel_rfl) (fun _ _ _ h => h) (Or.inl ⟨by rfl, ?_⟩) (by assumption) ?_
                      case refine_1 => intro W hSw; go_simp; try rfl
                      try simp only [Act.put, List.getElem_toArray, List.getElem_cons_zero, List.getElem_cons_succ, List.setIfInBounds_toArray, List.set_cons_zero, List.set_cons_succ]
                      refine wpAnyH_take (i := 11) (v := .pointer (some ⟨b9, 0, none⟩)) rfl (by kernel_rfl) (by kernel_rfl) (by kernel_rfl) (fun _ _ _ h => h) (Or.inl ⟨by rfl, ?_⟩) (by assumption) ?_
                      case refine_1 => intro W hSw; go_simp; try rfl
                      try simp only [Act.put, List.getElem_toArray, List.getElem_cons_zero, List.getElem_cons_succ, List.setIfInBounds_toArray, List.set_cons_zero, List.set_cons_succ]
                      refine wpAnyH_take (i := 12) (v := .int .u32 x1) rfl (by kernel_rfl) (by kernel_rfl) (by kernel_rfl) (fun _ _ _ h => h) (Or.inl ⟨by rfl, ?_⟩) (by assumption) ?_
                      case refine_1 => intro W hSw; have k9 : W.cell? ⟨b9, 0, none⟩ = some (.int .u32 x1) := hSw.1.cell 0; go_simp; try rfl
                      try simp only [Act.put, List.getElem_toArray, List.getElem_cons_zero, List.getElem_cons_succ, List.setIfInBounds_toArray, List.set_cons_zero, List.set_cons_succ]
                      refine wpAnyH_take (i := 13) (v := .bool false) rfl (by kernel_rfl) (by kernel_rfl) (by kernel_rfl) (fun _ _ _ h => h) (Or.inl ⟨by rfl, ?_⟩) (by assumption) ?_
                      case refine_1 => intro W hSw; go_simp; try rfl
                      try simp only [Act.put, List.getElem_toArray, List.getElem_cons_zero, List.getElem_cons_succ, List.setIfInBounds_toArray, List.set_cons_zero, List.set_cons_succ]
                      refine wpAnyH_take (i := 14) (v := .bool false) rfl (by kernel_rfl) (by kernel_rfl) (by kernel_rfl) (fun _ _ _ h => h) (Or.inl ⟨by rfl, ?_⟩) (by assumption) ?_
                      case refine_1 => intro W hSw; go_simp; try rfl
                      try simp only [Act.put, List.getElem_toArray, List.getElem_cons_zero, List.getElem_cons_succ, List.setIfInBounds_toArray, List.set_cons_zero, List.set_cons_succ]
                      refine wpAnyH_take (i := 15) (v := .slice (some ⟨gb, gf, none⟩) on oc) rfl (by kernel_rfl) (by kernel_rfl) (by kernel_rfl) (fun _ _ _ h => h) (Or.inl ⟨by rfl, ?_⟩) (by assumption) ?_
                      case refine_1 => intro W hSw; go_simp; try rfl
                      try simp only [Act.put, List.getElem_toArray, List.getElem_cons_zero, List.getElem_cons_succ, List.setIfInBounds_toArray, List.set_cons_zero, List.set_cons_succ]
                      refine wpAnyH_take (i := 16) (v := .int .i64 (k : Int)) rfl (by kernel_rfl) (by kernel_rfl) (by kernel_rfl) (fun _ _ _ h => h) (Or.inl ⟨by rfl, ?_⟩) (by assumption) ?_
                      case refine_1 => intro W hSw; go_simp; try rfl
                      try simp only [Act.put, List.getElem_toArray, List.getElem_cons_zero, List.getElem_cons_succ, List.setIfInBounds_toArray, List.set_cons_zero, List.set_cons_succ]
                      refine wpAnyH_take (i := 17) (v := .pointer (some ⟨gb, gf + k * 2, none⟩)) rfl (by kernel_rfl) (by kernel_rfl) (by kernel_rfl) (fun _ _ _ h => h) (Or.inl ⟨by rfl, ?_⟩) (by assumption) ?_
                      case refine_1 => intro W hSw; go_simp; try rfl
                      try simp only [Act.put, List.getElem_toArray, List.getElem_cons_zero, List.getElem_cons_succ, List.setIfInBounds_toArray, List.set_cons_zero, List.set_cons_succ]
                      refine wpAnyH_take (i := 18) (v := .pointer (some ⟨gb, gf + k * 2, none⟩)) rfl (by kernel_rfl) (by kernel_rfl) (by kernel_rfl) (fun _ _ _ h => h) (Or.inl ⟨by rfl, ?_⟩) (by assumption) ?_
                      case refine_1 => intro W hSw; go_simp; try rfl
                      try simp only [Act.put, List.getElem_toArray, List.getElem_cons_zero, List.getElem_cons_succ, List.setIfInBounds_toArray, List.set_cons_zero, List.set_cons_succ]
                      refine wpAnyH_take (i := 19) (v := .int .u32 x1) rfl (by kernel_rfl) (by kernel_rfl) (by kernel_rfl) (fun _ _ _ h => h) (Or.inl ⟨by rfl, ?_⟩) (by assumption) ?_
                      case refine_1 => intro W hSw; have k8 := hSw.2.1; go_simp; try rfl
                      try simp only [Act.put, List.getElem_toArray, List.getElem_cons_zero, List.getElem_cons_succ, List.setIfInBounds_toArray, List.set_cons_zero, List.set_cons_succ]
                      refine wpAnyH_take (i := 20) (v := .pointer (some ⟨b9, 0, none⟩)) rfl (by kernel_rfl) (by kernel_rfl) (by kernel_rfl) (fun _ _ _ h => h) (Or.inl ⟨by rfl, ?_⟩) (by assumption) ?_
                      case refine_1 => intro W hSw; go_simp; try rfl
                      try simp only [Act.put, List.getElem_toArray, List.getElem_cons_zero, List.getElem_cons_succ, List.setIfInBounds_toArray, List.set_cons_zero, List.set_cons_succ]
                      refine wpAnyH_take (i := 21) (v := .pointer (some ⟨b9, 0, none⟩)) rfl (by kernel_rfl) (by kernel_rfl) (by kernel_rfl) (fun _ _ _ h => h) (Or.inl ⟨by rfl, ?_⟩) (by assumption) ?_
                      case refine_1 => intro W hSw; go_simp; try rfl
                      try simp only [Act.put, List.getElem_toArray, List.getElem_cons_zero, List.getElem_cons_succ, List.setIfInBounds_toArray, List.set_cons_zero, List.set_cons_succ]
                      refine wpAnyH_take (i := 22) (v := .int .u32 x1) rfl (by kernel_rfl) (by kernel_rfl) (by kernel_rfl) (fun _ _ _ h => h) (Or.inl ⟨by rfl, ?_⟩) (by assumption) ?_
                      case refine_1 => intro W hSw; have k9 : W.cell? ⟨b9, 0, none⟩ = some (.int .u32 x1) := hSw.1.cell 0; go_simp; try rfl
                      try simp only [Act.put, List.getElem_toArray, List.getElem_cons_zero, List.getElem_cons_succ, List.setIfInBounds_toArray, List.set_cons_zero, List.set_cons_succ]
                      refine wpAnyH_take (i := 23) (v := .bool true) rfl (by kernel_rfl) (by kernel_rfl) (by kernel_rfl) (fun _ _ _ h => h) (Or.inl ⟨by rfl, ?_⟩) (by assumption) ?_
                      case refine_1 => intro W hSw; go_simp; try rfl
                      try simp only [Act.put, List.getElem_toArray, List.getElem_cons_zero, List.getElem_cons_succ, List.setIfInBounds_toArray, List.set_cons_zero, List.set_cons_succ]
                      refine wpAnyH_take (i := 24) (v := .bool true) rfl (by kernel_rfl) (by kernel_rfl) (by kernel_rfl) (fun _ _ _ h => h) (Or.inl ⟨by rfl, ?_⟩) (by assumption) ?_
                      case refine_1 => intro W hSw; go_simp; try rfl
                      try simp only [Act.put, List.getElem_toArray, List.getElem_cons_zero, List.getElem_cons_succ, List.setIfInBounds_toArray, List.set_cons_zero, List.set_cons_succ]
                      refine wpAnyH_take (i := 25) (v := .slice (some ⟨gb, gf, none⟩) on oc) rfl (by kernel_rfl) (by kernel_rfl) (by kernel_rfl) (fun _ _ _ h => h) (Or.inl ⟨by rfl, ?_⟩) (by assumption) ?_
                      case refine_1 => intro W hSw; go_simp; try rfl
                      try simp only [Act.put, List.getElem_toArray, List.getElem_cons_zero, List.getElem_cons_succ, List.setIfInBounds_toArray, List.set_cons_zero, List.set_cons_succ]
                      refine wpAnyH_take (i := 26) (v := .int .i64 (k : Int)) rfl (by kernel_rfl) (by kernel_rfl) (by kernel_rfl) (fun _ _ _ h => h) (Or.inl ⟨by rfl, ?_⟩) (by assumption) ?_
                      case refine_1 => intro W hSw; go_simp; try rfl
                      try simp only [Act.put, List.getElem_toArray, List.getElem_cons_zero, List.getElem_cons_succ, List.setIfInBounds_toArray, List.set_cons_zero, List.set_cons_succ]
                      refine wpAnyH_take (i := 27) (v := .pointer (some ⟨gb, gf + k * 2, none⟩)) rfl (by kernel_rfl) (by kernel_rfl) (by kernel_rfl) (fun _ _ _ h => h) (Or.inl ⟨by rfl, ?_⟩) (by assumption) ?_
                      case refine_1 => intro W hSw; go_simp; try rfl
                      try simp only [Act.put, List.getElem_toArray, List.getElem_cons_zero, List.getElem_cons_succ, List.setIfInBounds_toArray, List.set_cons_zero, List.set_cons_succ]
                      refine wpAnyH_take (i := 28) (v := .pointer (some ⟨gb, gf + k * 2 + 1, none⟩)) rfl (by kernel_rfl) (by kernel_rfl) (by kernel_rfl) (fun _ _ _ h => h) (Or.inl ⟨by rfl, ?_⟩) (by assumption) ?_
                      case refine_1 => intro W hSw; go_simp; try rfl
                      try simp only [Act.put, List.getElem_toArray, List.getElem_cons_zero, List.getElem_cons_succ, List.setIfInBounds_toArray, List.set_cons_zero, List.set_cons_succ]
                      refine wpAnyH_take (i := 29) (v := .int .i64 y2) rfl (by kernel_rfl) (by kernel_rfl) (by kernel_rfl) (fun _ _ _ h => h) (Or.inl ⟨by rfl, ?_⟩) (by assumption) ?_
                      case refine_1 => intro W hSw; have k8 := hSw.2.2; go_simp; try rfl
                      try simp only [Act.put, List.getElem_toArray, List.getElem_cons_zero, List.getElem_cons_succ, List.setIfInBounds_toArray, List.set_cons_zero, List.set_cons_succ]
                      refine wpAnyH_take (i := 30) (v := .pointer (some ⟨b9, 0, none⟩)) rfl (by kernel_rfl) (by kernel_rfl) (by kernel_rfl) (fun _ _ _ h => h) (Or.inl ⟨by rfl, ?_⟩) (by assumption) ?_
                      case refine_1 => intro W hSw; go_simp; try rfl
                      try simp only [Act.put, List.getElem_toArray, List.getElem_cons_zero, List.getElem_cons_succ, List.setIfInBounds_toArray, List.set_cons_zero, List.set_cons_succ]
                      refine wpAnyH_take (i := 31) (v := .pointer (some ⟨b9, 1, none⟩)) rfl (by kernel_rfl) (by kernel_rfl) (by kernel_rfl) (fun _ _ _ h => h) (Or.inl ⟨by rfl, ?_⟩) (by assumption) ?_
                      case refine_1 => intro W hSw; go_simp; try rfl
                      try simp only [Act.put, List.getElem_toArray, List.getElem_cons_zero, List.getElem_cons_succ, List.setIfInBounds_toArray, List.set_cons_zero, List.set_cons_succ]
                      refine wpAnyH_take (i := 32) (v := .int .i64 x2) rfl (by kernel_rfl) (by kernel_rfl) (by kernel_rfl) (fun _ _ _ h => h) (Or.inl ⟨by rfl, ?_⟩) (by assumption) ?_
                      case refine_1 => intro W hSw; have k9 : W.cell? ⟨b9, 1, none⟩ = some (.int .i64 x2) := hSw.1.cell 1; go_simp; try rfl
                      try simp only [Act.put, List.getElem_toArray, List.getElem_cons_zero, List.getElem_cons_succ, List.setIfInBounds_toArray, List.set_cons_zero, List.set_cons_succ]
                      refine wpAnyH_take (i := 33) (v := .bool true) rfl (by kernel_rfl) (by kernel_rfl) (by kernel_rfl) (fun _ _ _ h => h) (Or.inl ⟨by rfl, ?_⟩) (by assumption) ?_
                      case refine_1 => intro W hSw; go_simp; try rfl
                      try simp only [Act.put, List.getElem_toArray, List.getElem_cons_zero, List.getElem_cons_succ, List.setIfInBounds_toArray, List.set_cons_zero, List.set_cons_succ]
                      refine wpAnyH_take (i := 34) (v := .bool true) rfl (by kernel_rfl) (by kernel_rfl) (by kernel_rfl) (fun _ _ _ h => h) (Or.inl ⟨by rfl, ?_⟩) (by assumption) ?_
                      case refine_1 => intro W hSw; go_simp; try rfl
                      try simp only [Act.put, List.getElem_toArray, List.getElem_cons_zero, List.getElem_cons_succ, List.setIfInBounds_toArray, List.set_cons_zero, List.set_cons_succ]
                      refine wpAnyH_take (i := 35) (v := .bool true) rfl (by kernel_rfl) (by kernel_rfl) (by kernel_rfl) (fun _ _ _ h => h) (Or.inl ⟨by rfl, ?_⟩) (by assumption) ?_
                      case refine_1 => intro W hSw; go_simp; try rfl
                      try simp only [Act.put, List.getElem_toArray, List.getElem_cons_zero, List.getElem_cons_succ, List.setIfInBounds_toArray, List.set_cons_zero, List.set_cons_succ]
                      refine wpAnyH_take (i := 36) (v := .bool true) rfl (by kernel_rfl) (by kernel_rfl) (by kernel_rfl) (fun _ _ _ h => h) (Or.inl ⟨by rfl, ?_⟩) (by assumption) ?_
                      case refine_1 => intro W hSw; go_simp; try rfl
                      try simp only [Act.put, List.getElem_toArray, List.getElem_cons_zero, List.getElem_cons_succ, List.setIfInBounds_toArray, List.set_cons_zero, List.set_cons_succ]
                      refine wpAnyH_done (by kernel_rfl) ?_ _
                      clear hHeld
                      go_wp2_with fail
                      go_meet
                      exact ⟨by rw [HE.out], HBD.out⟩
                    case neg =>
                      have HE : Hid (r = false) := by show _ = _; rw [← HRP.out]; unfold plB; simp [hy2]
                      refine wpAnyH_take (i := 0) (v := .int .i64 (k : Int)) rfl (by kernel_rfl) (by kernel_rfl) (by kernel_rfl) (fun _ _ _ h => h) (Or.inl ⟨by rfl, ?_⟩) (by assumption) ?_
                      case refine_1 => intro W hSw; go_simp; try rfl
                      try simp only [Act.put, List.getElem_toArray, List.getElem_cons_zero, List.getElem_cons_succ, List.setIfInBounds_toArray, List.set_cons_zero, List.set_cons_succ]
                      refine wpAnyH_take (i := 1) (v := .slice (some ⟨gb, gf, none⟩) on oc) rfl (by kernel_rfl) (by kernel_rfl) (by kernel_rfl) (fun _ _ _ h => h) (Or.inl ⟨by rfl, ?_⟩) (by assumption) ?_
                      case refine_1 => intro W hSw; go_simp; try rfl
                      try simp only [Act.put, List.getElem_toArray, List.getElem_cons_zero, List.getElem_cons_succ, List.setIfInBounds_toArray, List.set_cons_zero, List.set_cons_succ]
                      refine wpAnyH_take (i := 2) (v := .int .i64 (on : Int)) rfl (by kernel_rfl) (by kernel_rfl) (by kernel_rfl) (fun _ _ _ h => h) (Or.inl ⟨by rfl, ?_⟩) (by assumption) ?_
                      case refine_1 => intro W hSw; go_simp; try rfl
                      try simp only [Act.put, List.getElem_toArray, List.getElem_cons_zero, List.getElem_cons_succ, List.setIfInBounds_toArray, List.set_cons_zero, List.set_cons_succ]
                      refine wpAnyH_take (i := 3) (v := .bool true) rfl (by kernel_rfl) (by kernel_rfl) (by kernel_rfl) (fun _ _ _ h => h) (Or.inl ⟨by rfl, ?_⟩) (by assumption) ?_
                      case refine_1 => intro W hSw; go_simp; try rfl
                      try simp only [Act.put, List.getElem_toArray, List.getElem_cons_zero, List.getElem_cons_succ, List.setIfInBounds_toArray, List.set_cons_zero, List.set_cons_succ]
                      refine wpAnyH_take (i := 4) (v := .bool true) rfl (by kernel_rfl) (by kernel_rfl) (by kernel_rfl) (fun _ _ _ h => h) (Or.inl ⟨by rfl, ?_⟩) (by assumption) ?_
                      case refine_1 => intro W hSw; go_simp; try rfl
                      try simp only [Act.put, List.getElem_toArray, List.getElem_cons_zero, List.getElem_cons_succ, List.setIfInBounds_toArray, List.set_cons_zero, List.set_cons_succ]
                      refine wpAnyH_take (i := 5) (v := .slice (some ⟨gb, gf, none⟩) on oc) rfl (by kernel_rfl) (by kernel_rfl) (by kernel_rfl) (fun _ _ _ h => h) (Or.inl ⟨by rfl, ?_⟩) (by assumption) ?_
                      case refine_1 => intro W hSw; go_simp; try rfl
                      try simp only [Act.put, List.getElem_toArray, List.getElem_cons_zero, List.getElem_cons_succ, List.setIfInBounds_toArray, List.set_cons_zero, List.set_cons_succ]
                      refine wpAnyH_take (i := 6) (v := .int .i64 (k : Int)) rfl (by kernel_rfl) (by kernel_rfl) (by kernel_rfl) (fun _ _ _ h => h) (Or.inl ⟨by rfl, ?_⟩) (by assumption) ?_
                      case refine_1 => intro W hSw; go_simp; try rfl
                      try simp only [Act.put, List.getElem_toArray, List.getElem_cons_zero, List.getElem_cons_succ, List.setIfInBounds_toArray, List.set_cons_zero, List.set_cons_succ]
                      refine wpAnyH_take (i := 7) (v := .pointer (some ⟨gb, gf + k * 2, none⟩)) rfl (by kernel_rfl) (by kernel_rfl) (by kernel_rfl) (fun _ _ _ h => h) (Or.inl ⟨by rfl, ?_⟩) (by assumption) ?_
                      case refine_1 => intro W hSw; go_simp; try rfl
                      try simp only [Act.put, List.getElem_toArray, List.getElem_cons_zero, List.getElem_cons_succ, List.setIfInBounds_toArray, List.set_cons_zero, List.set_cons_succ]
                      refine wpAnyH_take (i := 8) (v := .pointer (some ⟨gb, gf + k * 2, none⟩)) rfl (by kernel_rfl) (by kernel_rfl) (by kernel_rfl) (fun _ _ _ h => h) (Or.inl ⟨by rfl, ?_⟩) (by assumption) ?_
                      case refine_1 => intro W hSw; go_simp; try rfl
                      try simp only [Act.put, List.getElem_toArray, List.getElem_cons_zero, List.getElem_cons_succ, List.setIfInBounds_toArray, List.set_cons_zero, List.set_cons_succ]
                      refine wpAnyH_take (i := 9) (v := .int .u32 x1) rfl (by kernel_rfl) (by kernel_rfl) (by kernel_rfl) (fun _ _ _ h => h) (Or.inl ⟨by rfl, ?_⟩) (by assumption) ?_
                      case refine_1 => intro W hSw; have k8 := hSw.2.1; go_simp; try rfl
                      try simp only [Act.put, List.getElem_toArray, List.getElem_cons_zero, List.getElem_cons_succ, List.setIfInBounds_toArray, List.set_cons_zero, List.set_cons_succ]
                      refine wpAnyH_take (i := 10) (v := .pointer (some ⟨b9, 0, none⟩)) rfl (by kernel_rfl) (by kernel_rfl) (by kernel_rfl) (fun _ _ _ h => h) (Or.inl ⟨by rfl, ?_⟩) (by assumption) ?_
                      case refine_1 => intro W hSw; go_simp; try rfl
                      try simp only [Act.put, List.getElem_toArray, List.getElem_cons_zero, List.getElem_cons_succ, List.setIfInBounds_toArray, List.set_cons_zero, List.set_cons_succ]
                      refine wpAnyH_take (i := 11) (v := .pointer (some ⟨b9, 0, none⟩)) rfl (by kernel_rfl) (by kernel_rfl) (by kernel_rfl) (fun _ _ _ h => h) (Or.inl ⟨by rfl, ?_⟩) (by assumption) ?_
                      case refine_1 => intro W hSw; go_simp; try rfl
                      try simp only [Act.put, List.getElem_toArray, List.getElem_cons_zero, List.getElem_cons_succ, List.setIfInBounds_toArray, List.set_cons_zero, List.set_cons_succ]
                      refine wpAnyH_take (i := 12) (v := .int .u32 x1) rfl (by kernel_rfl) (by kernel_rfl) (by kernel_rfl) (fun _ _ _ h => h) (Or.inl ⟨by rfl, ?_⟩) (by assumption) ?_
                      case refine_1 => intro W hSw; have k9 : W.cell? ⟨b9, 0, none⟩ = some (.int .u32 x1) := hSw.1.cell 0; go_simp; try rfl
                      try simp only [Act.put, List.getElem_toArray, List.getElem_cons_zero, List.getElem_cons_succ, List.setIfInBounds_toArray, List.set_cons_zero, List.set_cons_succ]
                      refine wpAnyH_take (i := 13) (v := .bool false) rfl (by kernel_rfl) (by kernel_rfl) (by kernel_rfl) (fun _ _ _ h => h) (Or.inl ⟨by rfl, ?_⟩) (by assumption) ?_
                      case refine_1 => intro W hSw; go_simp; try rfl
                      try simp only [Act.put, List.getElem_toArray, List.getElem_cons_zero, List.getElem_cons_succ, List.setIfInBounds_toArray, List.set_cons_zero, List.set_cons_succ]
                      refine wpAnyH_take (i := 14) (v := .bool false) rfl (by kernel_rfl) (by kernel_rfl) (by kernel_rfl) (fun _ _ _ h => h) (Or.inl ⟨by rfl, ?_⟩) (by assumption) ?_
                      case refine_1 => intro W hSw; go_simp; try rfl
                      try simp only [Act.put, List.getElem_toArray, List.getElem_cons_zero, List.getElem_cons_succ, List.setIfInBounds_toArray, List.set_cons_zero, List.set_cons_succ]
                      refine wpAnyH_take (i := 15) (v := .slice (some ⟨gb, gf, none⟩) on oc) rfl (by kernel_rfl) (by kernel_rfl) (by kernel_rfl) (fun _ _ _ h => h) (Or.inl ⟨by rfl, ?_⟩) (by assumption) ?_
                      case refine_1 => intro W hSw; go_simp; try rfl
                      try simp only [Act.put, List.getElem_toArray, List.getElem_cons_zero, List.getElem_cons_succ, List.setIfInBounds_toArray, List.set_cons_zero, List.set_cons_succ]
                      refine wpAnyH_take (i := 16) (v := .int .i64 (k : Int)) rfl (by kernel_rfl) (by kernel_rfl) (by kernel_rfl) (fun _ _ _ h => h) (Or.inl ⟨by rfl, ?_⟩) (by assumption) ?_
                      case refine_1 => intro W hSw; go_simp; try rfl
                      try simp only [Act.put, List.getElem_toArray, List.getElem_cons_zero, List.getElem_cons_succ, List.setIfInBounds_toArray, List.set_cons_zero, List.set_cons_succ]
                      refine wpAnyH_take (i := 17) (v := .pointer (some ⟨gb, gf + k * 2, none⟩)) rfl (by kernel_rfl) (by kernel_rfl) (by kernel_rfl) (fun _ _ _ h => h) (Or.inl ⟨by rfl, ?_⟩) (by assumption) ?_
                      case refine_1 => intro W hSw; go_simp; try rfl
                      try simp only [Act.put, List.getElem_toArray, List.getElem_cons_zero, List.getElem_cons_succ, List.setIfInBounds_toArray, List.set_cons_zero, List.set_cons_succ]
                      refine wpAnyH_take (i := 18) (v := .pointer (some ⟨gb, gf + k * 2, none⟩)) rfl (by kernel_rfl) (by kernel_rfl) (by kernel_rfl) (fun _ _ _ h => h) (Or.inl ⟨by rfl, ?_⟩) (by assumption) ?_
                      case refine_1 => intro W hSw; go_simp; try rfl
                      try simp only [Act.put, List.getElem_toArray, List.getElem_cons_zero, List.getElem_cons_succ, List.setIfInBounds_toArray, List.set_cons_zero, List.set_cons_succ]
                      refine wpAnyH_take (i := 19) (v := .int .u32 x1) rfl (by kernel_rfl) (by kernel_rfl) (by kernel_rfl) (fun _ _ _ h => h) (Or.inl ⟨by rfl, ?_⟩) (by assumption) ?_
                      case refine_1 => intro W hSw; have k8 := hSw.2.1; go_simp; try rfl
                      try simp only [Act.put, List.getElem_toArray, List.getElem_cons_zero, List.getElem_cons_succ, List.setIfInBounds_toArray, List.set_cons_zero, List.set_cons_succ]
                      refine wpAnyH_take (i := 20) (v := .pointer (some ⟨b9, 0, none⟩)) rfl (by kernel_rfl) (by kernel_rfl) (by kernel_rfl) (fun _ _ _ h => h) (Or.inl ⟨by rfl, ?_⟩) (by assumption) ?_
                      case refine_1 => intro W hSw; go_simp; try rfl
                      try simp only [Act.put, List.getElem_toArray, List.getElem_cons_zero, List.getElem_cons_succ, List.setIfInBounds_toArray, List.set_cons_zero, List.set_cons_succ]
                      refine wpAnyH_take (i := 21) (v := .pointer (some ⟨b9, 0, none⟩)) rfl (by kernel_rfl) (by kernel_rfl) (by kernel_rfl) (fun _ _ _ h => h) (Or.inl ⟨by rfl, ?_⟩) (by assumption) ?_
                      case refine_1 => intro W hSw; go_simp; try rfl
                      try simp only [Act.put, List.getElem_toArray, List.getElem_cons_zero, List.getElem_cons_succ, List.setIfInBounds_toArray, List.set_cons_zero, List.set_cons_succ]
                      refine wpAnyH_take (i := 22) (v := .int .u32 x1) rfl (by kernel_rfl) (by kernel_rfl) (by kernel_rfl) (fun _ _ _ h => h) (Or.inl ⟨by rfl, ?_⟩) (by assumption) ?_
                      case refine_1 => intro W hSw; have k9 : W.cell? ⟨b9, 0, none⟩ = some (.int .u32 x1) := hSw.1.cell 0; go_simp; try rfl
                      try simp only [Act.put, List.getElem_toArray, List.getElem_cons_zero, List.getElem_cons_succ, List.setIfInBounds_toArray, List.set_cons_zero, List.set_cons_succ]
                      refine wpAnyH_take (i := 23) (v := .bool true) rfl (by kernel_rfl) (by kernel_rfl) (by kernel_rfl) (fun _ _ _ h => h) (Or.inl ⟨by rfl, ?_⟩) (by assumption) ?_
                      case refine_1 => intro W hSw; go_simp; try rfl
                      try simp only [Act.put, List.getElem_toArray, List.getElem_cons_zero, List.getElem_cons_succ, List.setIfInBounds_toArray, List.set_cons_zero, List.set_cons_succ]
                      refine wpAnyH_take (i := 24) (v := .bool true) rfl (by kernel_rfl) (by kernel_rfl) (by kernel_rfl) (fun _ _ _ h => h) (Or.inl ⟨by rfl, ?_⟩) (by assumption) ?_
                      case refine_1 => intro W hSw; go_simp; try rfl
                      try simp only [Act.put, List.getElem_toArray, List.getElem_cons_zero, List.getElem_cons_succ, List.setIfInBounds_toArray, List.set_cons_zero, List.set_cons_succ]
                      refine wpAnyH_take (i := 25) (v := .slice (some ⟨gb, gf, none⟩) on oc) rfl (by kernel_rfl) (by kernel_rfl) (by kernel_rfl) (fun _ _ _ h => h) (Or.inl ⟨by rfl, ?_⟩) (by assumption) ?_
                      case refine_1 => intro W hSw; go_simp; try rfl
                      try simp only [Act.put, List.getElem_toArray, List.getElem_cons_zero, List.getElem_cons_succ, List.setIfInBounds_toArray, List.set_cons_zero, List.set_cons_succ]
                      refine wpAnyH_take (i := 26) (v := .int .i64 (k : Int)) rfl (by kernel_rfl) (by kernel_rfl) (by kernel_rfl) (fun _ _ _ h => h) (Or.inl ⟨by rfl, ?_⟩) (by assumption) ?_
                      case refine_1 => intro W hSw; go_simp; try rfl
                      try simp only [Act.put, List.getElem_toArray, List.getElem_cons_zero, List.getElem_cons_succ, List.setIfInBounds_toArray, List.set_cons_zero, List.set_cons_succ]
                      refine wpAnyH_take (i := 27) (v := .pointer (some ⟨gb, gf + k * 2, none⟩)) rfl (by kernel_rfl) (by kernel_rfl) (by kernel_rfl) (fun _ _ _ h => h) (Or.inl ⟨by rfl, ?_⟩) (by assumption) ?_
                      case refine_1 => intro W hSw; go_simp; try rfl
                      try simp only [Act.put, List.getElem_toArray, List.getElem_cons_zero, List.getElem_cons_succ, List.setIfInBounds_toArray, List.set_cons_zero, List.set_cons_succ]
                      refine wpAnyH_take (i := 28) (v := .pointer (some ⟨gb, gf + k * 2 + 1, none⟩)) rfl (by kernel_rfl) (by kernel_rfl) (by kernel_rfl) (fun _ _ _ h => h) (Or.inl ⟨by rfl, ?_⟩) (by assumption) ?_
                      case refine_1 => intro W hSw; go_simp; try rfl
                      try simp only [Act.put, List.getElem_toArray, List.getElem_cons_zero, List.getElem_cons_succ, List.setIfInBounds_toArray, List.set_cons_zero, List.set_cons_succ]
                      refine wpAnyH_take (i := 29) (v := .int .i64 y2) rfl (by kernel_rfl) (by kernel_rfl) (by kernel_rfl) (fun _ _ _ h => h) (Or.inl ⟨by rfl, ?_⟩) (by assumption) ?_
                      case refine_1 => intro W hSw; have k8 := hSw.2.2; go_simp; try rfl
                      try simp only [Act.put, List.getElem_toArray, List.getElem_cons_zero, List.getElem_cons_succ, List.setIfInBounds_toArray, List.set_cons_zero, List.set_cons_succ]
                      refine wpAnyH_take (i := 30) (v := .pointer (some ⟨b9, 0, none⟩)) rfl (by kernel_rfl) (by kernel_rfl) (by kernel_rfl) (fun _ _ _ h => h) (Or.inl ⟨by rfl, ?_⟩) (by assumption) ?_
                      case refine_1 => intro W hSw; go_simp; try rfl
                      try simp only [Act.put, List.getElem_toArray, List.getElem_cons_zero, List.getElem_cons_succ, List.setIfInBounds_toArray, List.set_cons_zero, List.set_cons_succ]
                      refine wpAnyH_take (i := 31) (v := .pointer (some ⟨b9, 1, none⟩)) rfl (by kernel_rfl) (by kernel_rfl) (by kernel_rfl) (fun _ _ _ h => h) (Or.inl ⟨by rfl, ?_⟩) (by assumption) ?_
                      case refine_1 => intro W hSw; go_simp; try rfl
                      try simp only [Act.put, List.getElem_toArray, List.getElem_cons_zero, List.getElem_cons_succ, List.setIfInBounds_toArray, List.set_cons_zero, List.set_cons_succ]
                      refine wpAnyH_take (i := 32) (v := .int .i64 x2) rfl (by kernel_rfl) (by kernel_rfl) (by kernel_rfl) (fun _ _ _ h => h) (Or.inl ⟨by rfl, ?_⟩) (by assumption) ?_
                      case refine_1 => intro W hSw; have k9 : W.cell? ⟨b9, 1, none⟩ = some (.int .i64 x2) := hSw.1.cell 1; go_simp; try rfl
                      try simp only [Act.put, List.getElem_toArray, List.getElem_cons_zero, List.getElem_cons_succ, List.setIfInBounds_toArray, List.set_cons_zero, List.set_cons_succ]
                      refine wpAnyH_take (i := 33) (v := .bool false) rfl (by kernel_rfl) (by kernel_rfl) (by kernel_rfl) (fun _ _ _ h => h) (Or.inl ⟨by rfl, ?_⟩) (by assumption) ?_
                      case refine_1 => intro W hSw; go_simp; try rfl
                      try simp only [Act.put, List.getElem_toArray, List.getElem_cons_zero, List.getElem_cons_succ, List.setIfInBounds_toArray, List.set_cons_zero, List.set_cons_succ]
                      refine wpAnyH_take (i := 34) (v := .bool false) rfl (by kernel_rfl) (by kernel_rfl) (by kernel_rfl) (fun _ _ _ h => h) (Or.inl ⟨by rfl, ?_⟩) (by assumption) ?_
                      case refine_1 => intro W hSw; go_simp; try rfl
                      try simp only [Act.put, List.getElem_toArray, List.getElem_cons_zero, List.getElem_cons_succ, List.setIfInBounds_toArray, List.set_cons_zero, List.set_cons_succ]
                      refine wpAnyH_take (i := 35) (v := .bool false) rfl (by kernel_rfl) (by kernel_rfl) (by kernel_rfl) (fun _ _ _ h => h) (Or.inl ⟨by rfl, ?_⟩) (by assumption) ?_
                      case refine_1 => intro W hSw; go_simp; try rfl
                      try simp only [Act.put, List.getElem_toArray, List.getElem_cons_zero, List.getElem_cons_succ, List.setIfInBounds_toArray, List.set_cons_zero, List.set_cons_succ]
                      refine wpAnyH_take (i := 36) (v := .bool false) rfl (by kernel_rfl) (by kernel_rfl) (by kernel_rfl) (fun _ _ _ h => h) (Or.inl ⟨by rfl, ?_⟩) (by assumption) ?_
                      case refine_1 => intro W hSw; go_simp; try rfl
                      try simp only [Act.put, List.getElem_toArray, List.getElem_cons_zero, List.getElem_cons_succ, List.setIfInBounds_toArray, List.set_cons_zero, List.set_cons_succ]
                      refine wpAnyH_done (by kernel_rfl) ?_ _
                      clear hHeld
                      go_wp2_with fail
                      go_meet
                      exact ⟨by rw [HE.out], HBD.out⟩
            case rest =>
              obtain ⟨rfl, hbl⟩ := hcut
              replace HR : Hid (R0 w [(DdK, b2, ddL (clkD c t) (some ⟨lb, lo, none⟩) n cap), (DdK, b4, ddL zc none 0 0), (MkK, b9, mkL ⟨(x1, x2), xv, xs, xh, false⟩)] (.slice oa on oc) outs (.slice la ln lc) ls wc) := HR.out.step hbl
              obtain ⟨WY, hwy⟩ : ∃ y, wc = y := ⟨_, rfl⟩
              rw [hwy] at HR ⊢
              clear hbl hwy
              cases r
              case true =>
                have hkl : k < outs.length := Decidable.byContradiction (fun h9 => by have := HRK.out; rw [rK_no h9] at this; cases this)
                have HBF2 : Hid (∀ j (hj : j < outs.length), j < k + 1 → plt outs[j] (x1, x2)) := fun j hj hjk => by
                  rcases Nat.lt_succ_iff_lt_or_eq.1 hjk with h9 | rfl
                  · exact HBF.out j hj h9
                  · have := HRK.out
                    rw [rK_at hj] at this
                    exact (plB_iff _ _).1 this
                have hkn : k < on := by rw [← HON.out]; exact hkl
                have hw1' : wrap64 ((k : Int) + 1) = ((k + 1 : Nat) : Int) := by rw [IntWalk.wrap64_in _ (by omega)]; omega
                have hw2' : IntKind.i64.wrap ((k : Int) + 1) = ((k + 1 : Nat) : Int) := by rw [IntWalk.i64_in _ (by omega)]; omega
                go_wp2_with fail
                refine ⟨⟨⟨k + 1, by omega, by first | rfl | simp, HBF2.out⟩, HR.out⟩, ?_⟩
                first | (simp [intOf]; omega) | (rw [hw1']; simp [intOf]; omega)
              case false =>
                have HGE : Hid (∀ h : k < outs.length, ¬ plt outs[k] (x1, x2)) := fun h9 h10 => by
                  have := HRK.out
                  rw [rK_at h9, (plB_iff _ _).2 h10] at this
                  cases this
                have HSR2 : Hid (Srt (outs.take k ++ [(x1, x2)] ++ outs.drop k)) := ins_srt HSR.out HBF.out HGE.out
                have HPM2 : Hid ((outs.take k ++ [(x1, x2)] ++ outs.drop k).Perm (((L.take (i + 1)).filter (frM c L t)).map (·.p))) := by
                  have h5 := HFO.out
                  rw [HM2.out, if_pos rfl] at h5
                  show List.Perm _ _
                  rw [h5]
                  exact ins_perm.trans (HPM.out.append_right _)
                have HX0 : Hid (frX c L t ⟨(x1, x2), xv, xs, xh, true⟩ = ⟨(x1, x2), xv, xs, xh, false⟩) := by show _ = _; unfold frX; rw [HM2.out]; rfl
                rw [HX0.out] at HFL
                obtain ⟨hn1, hn2, hn3, hn4⟩ := own_none HR.out.oo.own
                have HN : Hid (on ≤ oc ∧ (oa = none → on = 0 ∧ oc = 0) ∧ (∀ b o s, oa = some ⟨b, o, s⟩ → s = none)) := ⟨hn1, hn2, hn3⟩
                have HCP : Hid (∀ W, R0 w [(DdK, b2, ddL (clkD c t) (some ⟨lb, lo, none⟩) n cap), (DdK, b4, ddL zc none 0 0), (MkK, b9, mkL ⟨(x1, x2), xv, xs, xh, false⟩)] (.slice oa on oc) outs (.slice la ln lc) ls W → ∀ j, j < PxK.k → W.cell? ⟨b9, 0 + j, none⟩ = (pxL (x1, x2))[j]?) := fun W hW => mk_px (m := ⟨(x1, x2), xv, xs, xh, false⟩) (fun j hj => by rw [Nat.zero_add]; exact (hW.bx.get 2 rfl).cell j)
                have HN0 : Hid (OB E2 w.heap.size (bsR [(DdK, b2, ddL (clkD c t) (some ⟨lb, lo, none⟩) n cap), (DdK, b4, ddL zc none 0 0), (MkK, b9, mkL ⟨(x1, x2), xv, xs, xh, false⟩)] (.slice oa on oc) (.slice la ln lc)) WY (.slice none 0 0) []) := OB.nil _ _ _ _
                clear HX0 HFO HM2 HRK HBF HGE hn1 hn2 hn3 hn4
                go_wp2_with (first | (refine list_plo rfl _ _ rfl (a := oa) (n := on) (c := oc) (h := k) rfl rfl hk HN.out.1 HN.out.2.1 HN.out.2.2 ?_) | (refine list_appL E2 rfl _ _ 43 rfl rfl w.heap.size (.slice none 0 0) [] (outs.take k) oa k oc WY (by simp; omega) rfl HN0.out.own rfl (HR.out.oo.own.lst.1.take k) (fun e => by have := HN.out.2.1 e; omega) (by rw [List.length_take, HON.out]; omega) HR.out.bx.bel.size ?_))
                intro v1 Y1 ho hg ha
                have HR1 : Hid (R0 w [(DdK, b2, ddL (clkD c t) (some ⟨lb, lo, none⟩) n cap), (DdK, b4, ddL zc none 0 0), (MkK, b9, mkL ⟨(x1, x2), xv, xs, xh, false⟩)] (.slice oa on oc) outs (.slice la ln lc) ls Y1) := HR.out.grown hg.out HN0.out
                have HV1 : Hid (OB E2 w.heap.size (bsR [(DdK, b2, ddL (clkD c t) (some ⟨lb, lo, none⟩) n cap), (DdK, b4, ddL zc none 0 0), (MkK, b9, mkL ⟨(x1, x2), xv, xs, xh, false⟩)] (.slice oa on oc) (.slice la ln lc)) Y1 v1 (outs.take k)) := HN0.out.app (by simpa using ho.out) (by simpa using ha.out) HR.out.bs
                clear ho hg ha HR HN0
                have HA2 : Hid (Below Y1.heap.size Y1 (Y1.alloc (Obj.cells (pxL (x1, x2)).toArray 35))) := (Below.refl _ Y1).alloc (Nat.le_refl _) _
                have HRA : Hid (R0 w [(DdK, b2, ddL (clkD c t) (some ⟨lb, lo, none⟩) n cap), (DdK, b4, ddL zc none 0 0), (MkK, b9, mkL ⟨(x1, x2), xv, xs, xh, false⟩)] (.slice oa on oc) outs (.slice la ln lc) ls (Y1.alloc (Obj.cells (pxL (x1, x2)).toArray 35))) := HR1.out.step HA2.out
                have HVA : Hid (OB E2 w.heap.size (bsR [(DdK, b2, ddL (clkD c t) (some ⟨lb, lo, none⟩) n cap), (DdK, b4, ddL zc none 0 0), (MkK, b9, mkL ⟨(x1, x2), xv, xs, xh, false⟩)] (.slice oa on oc) (.slice la ln lc)) (Y1.alloc (Obj.cells (pxL (x1, x2)).toArray 35)) v1 (outs.take k)) := HV1.out.bel HA2.out
                have HTL : Hid ((outs.take k).length ≤ 1000000) := by show _ ≤ _; rw [List.length_take, HON.out]; omega
                go_wp2_with (first | (refine list_sat PxK rfl _ rfl (b := b9) (k := 0) (cs := pxL (x1, x2)) rfl (HCP.out _ HR1.out) rfl ?_) | (refine list_pbuild rfl _ rfl (p := (x1, x2)) rfl ?_) | (refine list_app1 E2 rfl _ _ 43 rfl rfl w.heap.size v1 (outs.take k) (x1, x2) (by have := HTL.out; omega) (w := Y1) (Y1.alloc (Obj.cells (pxL (x1, x2)).toArray 35)) rfl HVA.out.own rfl HRA.out.bx.bel.size rfl ?_))
                intro v2 Y2 ho hg ha
                have HR2 : Hid (R0 w [(DdK, b2, ddL (clkD c t) (some ⟨lb, lo, none⟩) n cap), (DdK, b4, ddL zc none 0 0), (MkK, b9, mkL ⟨(x1, x2), xv, xs, xh, false⟩)] (.slice oa on oc) outs (.slice la ln lc) ls Y2) := HRA.out.grown hg.out HVA.out
                have HV2 : Hid (OB E2 w.heap.size (bsR [(DdK, b2, ddL (clkD c t) (some ⟨lb, lo, none⟩) n cap), (DdK, b4, ddL zc none 0 0), (MkK, b9, mkL ⟨(x1, x2), xv, xs, xh, false⟩)] (.slice oa on oc) (.slice la ln lc)) Y2 v2 (outs.take k ++ [(x1, x2)])) := HVA.out.app ho.out (by simpa using ha.out) HRA.out.bs
                clear ho hg ha HR1 HV1 HA2 HRA HVA
                go_wp2_with (refine list_phi rfl _ _ rfl (a := oa) (n := on) (c := oc) (l := k) (xs := outs) rfl rfl hk HN.out.1 HN.out.2.1 HN.out.2.2 HR2.out.oo.own.lst.1 HON.out ?_)
                intro a3 hl3 hn3
                go_wp2_with (refine list_appL E2 rfl _ _ 43 rfl rfl w.heap.size v2 (outs.take k ++ [(x1, x2)]) (outs.drop k) a3 (on - k) (oc - k) Y2 (by have := HTL.out; simp at this ⊢; omega) rfl HV2.out.own rfl hl3.out hn3.out (by rw [List.length_drop, HON.out]) HR2.out.bx.bel.size ?_)
                intro v3 Y3 ho hg ha
                have HR3 : Hid (R0 w [(DdK, b2, ddL (clkD c t) (some ⟨lb, lo, none⟩) n cap), (DdK, b4, ddL zc none 0 0), (MkK, b9, mkL ⟨(x1, x2), xv, xs, xh, false⟩)] (.slice oa on oc) outs (.slice la ln lc) ls Y3) := HR2.out.grown hg.out HV2.out
                have HV3 : Hid (OB E2 w.heap.size (bsR [(DdK, b2, ddL (clkD c t) (some ⟨lb, lo, none⟩) n cap), (DdK, b4, ddL zc none 0 0), (MkK, b9, mkL ⟨(x1, x2), xv, xs, xh, false⟩)] (.slice oa on oc) (.slice la ln lc)) Y3 v3 (outs.take k ++ [(x1, x2)] ++ outs.drop k)) := HV2.out.app (by simpa using ho.out) (by simpa using ha.out) HR2.out.bs
                have HR4 : Hid (R0 w [(DdK, b2, ddL (clkD c t) (some ⟨lb, lo, none⟩) n cap), (DdK, b4, ddL zc none 0 0), (MkK, b9, mkL ⟨(x1, x2), xv, xs, xh, false⟩)] v3 (outs.take k ++ [(x1, x2)] ++ outs.drop k) (.slice la ln lc) ls Y3) := HR3.out.out HV3.out
                obtain ⟨o3, ho3⟩ : ∃ y, outs.take k ++ [(x1, x2)] ++ outs.drop k = y := ⟨_, rfl⟩
                rw [ho3] at HR4 HSR2 HPM2
                clear ho hg ha hl3 hn3 HR2 HV2 HR3 HV3 ho3 HTL HCP HN
                have HA2 : Hid (Below Y3.heap.size Y3 (Y3.alloc (Obj.cells (mkL ⟨(x1, x2), xv, xs, xh, false⟩).toArray 64))) := (Below.refl _ Y3).alloc (Nat.le_refl _) _
                have HRA : Hid (R0 w [(DdK, b2, ddL (clkD c t) (some ⟨lb, lo, none⟩) n cap), (DdK, b4, ddL zc none 0 0), (MkK, b9, mkL ⟨(x1, x2), xv, xs, xh, false⟩)] v3 o3 (.slice la ln lc) ls (Y3.alloc (Obj.cells (mkL ⟨(x1, x2), xv, xs, xh, false⟩).toArray 64))) := HR4.out.step HA2.out
                go_upto_region 19 with fail
                go_wp2_with (first | (refine bx_ld HR4.out.bx 2 rfl rfl _ rfl rfl rfl ?_) | (refine list_mkbuild rfl _ rfl ⟨(x1, x2), xv, xs, xh, false⟩ rfl ?_) | (refine list_app1 EK rfl _ _ 30 rfl rfl w.heap.size (.slice la ln lc) ls ⟨(x1, x2), xv, xs, xh, false⟩ (by have := HLLN.out; omega) (w := Y3) (Y3.alloc (Obj.cells (mkL ⟨(x1, x2), xv, xs, xh, false⟩).toArray 64)) rfl HRA.out.ol.own rfl HRA.out.bx.bel.size rfl ?_))
                intro v7 w7 ho7 hg7 ha7
                have HR7 : Hid (R0 w [(DdK, b2, ddL (clkD c t) (some ⟨lb, lo, none⟩) n cap), (DdK, b4, ddL zc none 0 0), (MkK, b9, mkL ⟨(x1, x2), xv, xs, xh, false⟩)] v3 o3 v7 (ls ++ [⟨(x1, x2), xv, xs, xh, false⟩]) w7) := HRA.out.appL hg7.out ho7.out (by simpa using ha7.out)
                have HR8 : Hid (R0 w [(DdK, b2, ddL (clkD c t) (some ⟨lb, lo, none⟩) n cap), (DdK, b4, ddL zc none 0 0)] v3 o3 v7 ((frL c L t).take (i + 1)) w7) := by rw [HFL.out]; exact HR7.out.less (M := [(MkK, b9, mkL ⟨(x1, x2), xv, xs, xh, false⟩)])
                clear ho7 hg7 ha7 HA2 HRA HR4 HR7
                go_wp2_with fail
                refine ⟨⟨i + 1, o3, by omega, by simp, HR8.out, HSR2.out, HPM2.out⟩, ?_⟩
                simp [intOf]
                omega
    case neg =>
      have hii : ¬ (i : Int) < (n : Int) := by omega
      have HFI : Hid (ls = frL c L t ∧ ((L.take i).filter (frM c L t)).map (·.p) = frO c L t) := by
        have h1 : L.take i = L := List.take_of_length_le (by have := HN.out; omega)
        have h2 := HLS.out
        rw [List.take_of_length_le (by unfold frL; rw [List.length_map]; have := HN.out; omega)] at h2
        exact ⟨h2.symm, by rw [h1]; rfl⟩
      go_wp2_with (refine bx_pS EK (fun _ => rfl) HR.out.bx 0 7 rfl _ _ rfl rfl rfl rfl rfl ?_)
      intro W4 hb2 hk
      replace HR : Hid (R0 w [(DdK, b2, ddL (clkD c t) la ln lc), (DdK, b4, ddL zc none 0 0)] (.slice oa on oc) outs (.slice la ln lc) ls W4) := HR.out.upd hb2.out hk.out (by simp [adr]) rfl
      clear hb2 hk
      go_wp2_with (first | (refine bx_ld HR.out.bx 0 rfl rfl _ rfl rfl rfl ?_) | (refine bx_st HR.out.bx 1 rfl rfl _ _ rfl rfl (ddL (clkD c t) la ln lc) rfl rfl rfl rfl ?_))
      intro W5 hb2 hk
      replace HR : Hid (R0 w [(DdK, b2, ddL (clkD c t) la ln lc), (DdK, b4, ddL (clkD c t) la ln lc)] (.slice oa on oc) outs (.slice la ln lc) ls W5) := HR.out.upd hb2.out hk.out (by simp [adr]) rfl
      clear hb2 hk
      have HF : Hid (DrPost w (clkD c t) (frL c L t) (frO c L t) (.returned (.tuple #[.agg (ddL (clkD c t) la ln lc).toArray, .slice oa on oc])) W5) := by
        have h1 := HR.out.ol.own
        have h2 := h1.lst
        have h3 := HPM.out
        rw [HFI.out.1] at h2
        rw [HFI.out.2] at h3
        exact ⟨la, ln, lc, oa, on, oc, outs, rfl, h2.1, h2.2, fun b o s e => own_ge h1 e, HR.out.oo.own.lst.1, HON.out, HSR.out, h3, HR.out.bx.bel⟩
      go_wp2_with fail
      exact bodyPost_ret (dfreed_res (HR.out.bx.get 1 rfl) rfl rfl) rfl HF.out
end Go.Proofs.Ytjfiahendnlcjaa.Da
