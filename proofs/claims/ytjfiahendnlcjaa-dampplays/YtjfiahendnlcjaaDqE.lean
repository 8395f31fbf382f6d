/- The document's damper in memory: Flap. -/
import Derived.Test.YtjfiahendnlcjaaDqD
import Derived.Test.YtjfiahendnlcjaaGeX
import Derived.Deep.CutBlock
namespace Go.Proofs.Ytjfiahendnlcjaa.Da
open Go.ChangeShapes Go.WideShapes Go.ChangeAt Go.RowKit Go.Joins Go.Deep Go.Proofs.Ytjfiahendnlcjaa.Ge Go.Proofs.Ytjfiahendnlcjaa.PM Go.Proofs.Ytjfiahendnlcjaa.Ask
set_option linter.unusedVariables false
set_option linter.unusedSimpArgs false

def zc : Dc := ⟨0, 0, 0, 0, 0, 0, 0⟩
theorem ddnew_run {o : Oper} {ρ : Operand → Value} {W : World} (ho : o.op = .alloc 32) : (execOp ρ o).run Try.prog W = .ok (.value (.pointer (some ⟨W.heap.size, 0, none⟩))) (W.alloc (Obj.cells (ddL zc none 0 0).toArray 32)) := by
  unfold execOp
  rw [ho]
  simp [go_sem, ddL, zc]
theorem list_ddnew {ops : Array Oper} {rest : List Oper} {o : Oper} {ac : Act} {Q : Exit → Act → World → Prop} {W : World} (hgd : o.guard = none) (ho : o.op = .alloc 32)
    (k : ∀ b W', Hid (W.heap.size = b) → Hid (SB DdK b (ddL zc none 0 0) W') → Hid (Below W.heap.size W W') → wpList Try.prog ops Q rest (ac.put o.dst (.pointer (some ⟨b, 0, none⟩))) W') : wpList Try.prog ops Q (o :: rest) ac W := by
  refine wpList_plain hgd fun K hK => ?_
  unfold Oper.wp
  rw [ddnew_run ho]
  exact hK _ _ (k _ _ rfl (World.alloc_heap_new W _) ((Below.refl _ W).alloc (Nat.le_refl _) _))
theorem mknew_run {o : Oper} {ρ : Operand → Value} {W : World} (ho : o.op = .alloc 64) : (execOp ρ o).run Try.prog W = .ok (.value (.pointer (some ⟨W.heap.size, 0, none⟩))) (W.alloc (Obj.cells (mkL ⟨(0, 0), 0, 0, false, false⟩).toArray 64)) := by
  unfold execOp
  rw [ho]
  simp [go_sem, mkL]
theorem list_mknew {ops : Array Oper} {rest : List Oper} {o : Oper} {ac : Act} {Q : Exit → Act → World → Prop} {W : World} (hgd : o.guard = none) (ho : o.op = .alloc 64)
    (k : ∀ b W', Hid (W.heap.size = b) → Hid (SB MkK b (mkL ⟨(0, 0), 0, 0, false, false⟩) W') → Hid (Below W.heap.size W W') → wpList Try.prog ops Q rest (ac.put o.dst (.pointer (some ⟨b, 0, none⟩))) W') : wpList Try.prog ops Q (o :: rest) ac W := by
  refine wpList_plain hgd fun K hK => ?_
  unfold Oper.wp
  rw [mknew_run ho]
  exact hK _ _ (k _ _ rfl (World.alloc_heap_new W _) ((Below.refl _ W).alloc (Nat.le_refl _) _))
theorem mbuild_run {o : Oper} (x : Operand) (ho : o.op = .buildSlice 30 1 #[(0, x)]) {ρ : Operand → Value} {m : DM} {W : World} (hx : ρ x = .agg (mkL m).toArray) : (execOp ρ o).run Try.prog W = .ok (.value (.slice (some ⟨W.heap.size, 0, none⟩) 1 1)) (W.alloc (Obj.cells (mkL m).toArray 64)) := by
  unfold mkL at hx
  unfold execOp
  rw [ho]
  simp [go_sem, hx, mkL]
theorem list_mkbuild {ops : Array Oper} {rest : List Oper} {o : Oper} {ac : Act} {Q : Exit → Act → World → Prop} {W : World} (hgd : o.guard = none) (x : Operand) (ho : o.op = .buildSlice 30 1 #[(0, x)]) (m : DM) (hx : ac.eval x = .agg (mkL m).toArray)
    (k : wpList Try.prog ops Q rest (ac.put o.dst (.slice (some ⟨W.heap.size, 0, none⟩) 1 1)) (W.alloc (Obj.cells (mkL m).toArray 64))) : wpList Try.prog ops Q (o :: rest) ac W := by
  refine wpList_plain hgd fun K hK => ?_
  unfold Oper.wp
  rw [mbuild_run x ho hx]
  exact hK _ _ k
/-- what Flap and Freed answer -/
def DfPost (w : World) (va : Option Addr) (c' : Dc) (L' : List DM) (er : Int) (e : Ending) (w' : World) : Prop := ∃ va' n' cap', e = .returned (.tuple #[.agg (ddL c' va' n' cap').toArray, .int .i64 er]) ∧ Lst EK w' va' L' ∧ L'.length = n' ∧ (∀ b o s, va' = some ⟨b, o, s⟩ → va' = va ∨ w.heap.size ≤ b) ∧ Below w.heap.size w w'
theorem dflap_res {W : World} {b : Nat} {c : Dc} {a : Option Addr} {n k : Nat} {er : Value} (h : SB DdK b (ddL c a n k) W) {tm : Array Value} (t1 : (tm[8]?).getD undef = .pointer (some ⟨b, 0, none⟩)) (t2 : (tm[9]?).getD undef = er) : (results Try.f9 tm).run Try.prog W = .ok (.tuple #[.agg (ddL c a n k).toArray, er]) W := by
  have c0 : W.cell? ⟨b, 0, none⟩ = some (.int .i64 (c.half : Int)) := h.cell 0
  have c1 : W.cell? ⟨b, 1, none⟩ = some (.int .i64 (c.limit : Int)) := h.cell 1
  have c2 : W.cell? ⟨b, 2, none⟩ = some (.int .i64 (c.reuse : Int)) := h.cell 2
  have c3 : W.cell? ⟨b, 3, none⟩ = some (.int .i64 (c.most : Int)) := h.cell 3
  have c4 : W.cell? ⟨b, 4, none⟩ = some (.int .i64 (c.down : Int)) := h.cell 4
  have c5 : W.cell? ⟨b, 5, none⟩ = some (.int .i64 (c.change : Int)) := h.cell 5
  have c6 : W.cell? ⟨b, 6, none⟩ = some (.int .i64 (c.clock : Int)) := h.cell 6
  have c7 : W.cell? ⟨b, 7, none⟩ = some (.slice a n k) := h.cell 7
  simp [results, Try.results9, go_sem, ddL, t1, t2, c0, c1, c2, c3, c4, c5, c6, c7]
theorem dix_iff {L : List DM} (hn : DNd L) {p : Pf} {k : Nat} (hk : k < L.length) : (k : Int) = dix L p ↔ L[k].p = p := by
  rcases dix_cases L p with ⟨hz, hg⟩ | ⟨i, hi, hz, hp, hg⟩
  · rw [hz]
    refine ⟨fun e => by omega, fun e => ?_⟩
    have h2 := dget_of hn (List.getElem_mem hk)
    rw [e, hg] at h2
    cases h2
  · rw [hz]
    constructor
    · intro e
      have : k = i := by omega
      subst this
      exact hp
    · intro e
      have h2 : (L.map (·.p))[k]'(by rw [List.length_map]; exact hk) = (L.map (·.p))[i]'(by rw [List.length_map]; exact hi) := by rw [List.getElem_map, List.getElem_map, e, hp]
      have := (List.getElem_inj hn).1 h2
      omega
theorem take_one {α : Type} {L : List α} {i : Nat} (h : i < L.length) : L.take (i + 1) = L.take i ++ [L[i]] := (List.take_append_getElem h).symm
theorem mk_px {W : World} {b k : Nat} {m : DM} (h : ∀ j, j < 6 → W.cell? ⟨b, k + j, none⟩ = (mkL m)[j]?) : ∀ j, j < PxK.k → W.cell? ⟨b, k + j, none⟩ = (pxL m.p)[j]? := fun j hj => by
  have hj2 : j < 2 := hj
  rw [h j (by omega)]
  match j, hj2 with
  | 0, _ => rfl
  | 1, _ => rfl
theorem own_ge {α : Type} {E : El α} {N n k : Nat} {w : World} {a : Option Addr} {xs : List α} (h : OwnL E N w (.slice a n k) xs) {b o : Nat} {s : Option Nat} (e : a = some ⟨b, o, s⟩) : N ≤ b := (h.row.lt b (by rw [e]; rfl)).1
def oth1 (c : Dc) (L : List DM) (p : Pf) (now : Nat) (m : DM) : Bool := decide (m.p ≠ p ∧ 0 < penP c (dfn L) m.p now)
theorem oth_next {c : Dc} {L : List DM} {p : Pf} {now i : Nat} (h : i < L.length) : (L.take (i + 1)).countP (oth1 c L p now) = (L.take i).countP (oth1 c L p now) + (if oth1 c L p now L[i] = true then 1 else 0) := by
  rw [take_one h, List.countP_append, List.countP_singleton]
def keep1 (p : Pf) (m : DM) : Bool := decide (m.p ≠ p)
theorem keep_next {L : List DM} {p : Pf} {i : Nat} (h : i < L.length) : (L.take (i + 1)).filter (keep1 p) = (L.take i).filter (keep1 p) ++ (if keep1 p L[i] = true then [L[i]] else []) := by
  rw [take_one h, List.filter_append]
  congr 1
  cases hk : keep1 p L[i] <;> simp [List.filter, hk]
structure F1 (w : World) (BL : List (Sk × Nat × List Value)) (c : Dc) (L : List DM) (p : Pf) (now n : Nat) (iv ov : Value) (W : World) : Prop where
  at_ : ∃ i : Nat, i ≤ n ∧ iv = .int .i64 (i : Int) ∧ ov = .int .i64 (((L.take i).countP (oth1 c L p now) : Nat) : Int)
  bx : Bxs w BL W
structure F2 (w : World) (BL : List (Sk × Nat × List Value)) (L : List DM) (p : Pf) (n : Nat) (iv lv : Value) (W : World) : Prop where
  at_ : ∃ i : Nat, i ≤ n ∧ iv = .int .i64 (i : Int) ∧ OB EK w.heap.size (adr BL) W lv ((L.take i).filter (keep1 p))
  bx : Bxs w BL W
set_option maxRecDepth 100000 in
set_option maxHeartbeats 32000000 in
theorem dflap_any (c : Dc) (hc : DcOk c) (va : Option Addr) (n cap : Nat) (L : List DM) (hn : L.length = n) (hbd : BdL c L) (hnd : DNd L) (p : Pf) (hp : 0 ≤ p.1 ∧ p.1 < 4294967296) (what now : Int) (hnl : n ≤ 1000000) (w : World) (h : Lst EK w va L) (er : Int) (her : chkQ c L p what now = er) (c' : Dc) (L' : List DM) (hq : (if er = 0 then (clkD c now.toNat, dput L (fmk c L p what now.toNat)) else (c, L)) = (c', L')) :
    Calls Try.prog 9 #[.agg (ddL c va n cap).toArray, pfV p, .int .i64 what, .int .i64 now] w (DfPost w va c' L' er) := by
  obtain ⟨p1, p2⟩ := p
  have H : Hid (Lst EK w va L) := h
  have HN : Hid (L.length = n) := hn
  have HC : Hid (DcOk c) := hc
  have HBL : Hid (BdL c L) := hbd
  have HND : Hid (DNd L) := hnd
  have HP : Hid (0 ≤ p1 ∧ p1 < 4294967296) := hp
  have HER : Hid (chkQ c L (p1, p2) what now = er) := her
  have HQ : Hid ((if er = 0 then (clkD c now.toNat, dput L (fmk c L (p1, p2) what now.toNat)) else (c, L)) = (c', L')) := hq
  clear h hn hc hbd hnd hp her hq
  go_enter Try.func9, Try.ntmps9
  have HB : Hid (Bxs w [] w) := Bxs.nil w
  go_wp2_with (refine list_sbox DdK rfl _ rfl (cs := ddL c va n cap) rfl ?_)
  intro W1 hx hb hz
  obtain ⟨b4, hbe⟩ : ∃ y, w.heap.size = y := ⟨_, rfl⟩
  rw [hbe]
  have hx2 := hx.out
  rw [hbe] at hx2
  replace HB : Hid (Bxs w [(DdK, b4, ddL c va n cap)] W1) := HB.out.new hbe hx2 hb.out
  clear hx hb hz hx2 hbe
  go_wp2_with (refine list_sbox PxK rfl _ rfl (cs := [.int .u32 p1, .int .i64 p2]) rfl ?_)
  intro W2 hx hb hz
  obtain ⟨b5, hbe⟩ : ∃ y, W1.heap.size = y := ⟨_, rfl⟩
  rw [hbe]
  have hx2 := hx.out
  rw [hbe] at hx2
  replace HB : Hid (Bxs w [(DdK, b4, ddL c va n cap), (PxK, b5, [.int .u32 p1, .int .i64 p2])] W2) := HB.out.new hbe hx2 hb.out
  clear hx hb hz hx2 hbe
  go_wp2_with (refine list_ddnew rfl rfl ?_)
  intro b8 W3 hbe hx hb
  replace HB : Hid (Bxs w [(DdK, b4, ddL c va n cap), (PxK, b5, [.int .u32 p1, .int .i64 p2]), (DdK, b8, ddL zc none 0 0)] W3) := HB.out.new hbe.out hx.out hb.out
  clear hx hb hbe
  go_wp2_with (first | (refine bx_ld HB.out 0 rfl rfl _ rfl rfl rfl ?_) | (refine bx_ld HB.out 1 rfl rfl _ rfl rfl rfl ?_))
  refine (rvalid_any p1 p2 HP.out.1 HP.out.2 W3).mono ?_
  rintro e W4 ⟨rfl, hbl⟩
  replace HB : Hid (Bxs w [(DdK, b4, ddL c va n cap), (PxK, b5, [.int .u32 p1, .int .i64 p2]), (DdK, b8, ddL zc none 0 0)] W4) := HB.out.step hbl
  clear hbl
  obtain ⟨vv, hvv⟩ : ∃ y, vld p1 p2 = y := ⟨_, rfl⟩
  rw [hvv]
  have HV : Hid (vld p1 p2 = vv) := hvv
  clear hvv
  cases vv
  case false =>
    have HE : Hid (3 = er) := by show _ = _; rw [← HER.out]; unfold chkQ; rw [if_pos HV.out]
    have HQ2 : Hid ((c, L) = (c', L')) := by
      have h5 := HQ.out
      rw [← HE.out, if_neg (by decide)] at h5
      exact h5
    go_wp2_with (first | (refine bx_ld HB.out 0 rfl rfl _ rfl rfl rfl ?_) | (refine bx_st HB.out 2 rfl rfl _ _ rfl rfl (ddL c va n cap) rfl rfl rfl rfl ?_))
    intro WE hb2 hk
    replace HB : Hid (Bxs w [(DdK, b4, ddL c va n cap), (PxK, b5, [.int .u32 p1, .int .i64 p2]), (DdK, b8, ddL c va n cap)] WE) := hb2.out
    clear hb2 hk
    have HF : Hid (DfPost w va c' L' er (.returned (.tuple #[.agg (ddL c va n cap).toArray, .int .i64 3])) WE) := by
      obtain ⟨rfl, rfl⟩ := Prod.mk.inj HQ2.out
      rw [← HE.out]
      exact ⟨va, n, cap, rfl, H.out.bel HB.out.bel, HN.out, fun _ _ _ _ => .inl rfl, HB.out.bel⟩
    go_wp2_with fail
    exact bodyPost_ret (dflap_res (HB.out.get 2 rfl) rfl rfl) rfl HF.out
  have HVN : Hid (¬ vld p1 p2 = false) := by show ¬ _; rw [HV.out]; decide
  by_cases hw1 : what < 1
  case pos =>
    have HE : Hid (13 = er) := by show _ = _; rw [← HER.out]; unfold chkQ; rw [if_neg HVN.out, if_pos (by omega)]
    have HQ2 : Hid ((c, L) = (c', L')) := by
      have h5 := HQ.out
      rw [← HE.out, if_neg (by decide)] at h5
      exact h5
    go_wp2_with (first | (refine bx_ld HB.out 0 rfl rfl _ rfl rfl rfl ?_) | (refine bx_st HB.out 2 rfl rfl _ _ rfl rfl (ddL c va n cap) rfl rfl rfl rfl ?_))
    intro WE hb2 hk
    replace HB : Hid (Bxs w [(DdK, b4, ddL c va n cap), (PxK, b5, [.int .u32 p1, .int .i64 p2]), (DdK, b8, ddL c va n cap)] WE) := hb2.out
    clear hb2 hk
    have HF : Hid (DfPost w va c' L' er (.returned (.tuple #[.agg (ddL c va n cap).toArray, .int .i64 13])) WE) := by
      obtain ⟨rfl, rfl⟩ := Prod.mk.inj HQ2.out
      rw [← HE.out]
      exact ⟨va, n, cap, rfl, H.out.bel HB.out.bel, HN.out, fun _ _ _ _ => .inl rfl, HB.out.bel⟩
    go_wp2_with fail
    exact bodyPost_ret (dflap_res (HB.out.get 2 rfl) rfl rfl) rfl HF.out
  by_cases hw3 : 3 < what
  case pos =>
    have HE : Hid (13 = er) := by show _ = _; rw [← HER.out]; unfold chkQ; rw [if_neg HVN.out, if_pos (by omega)]
    have HQ2 : Hid ((c, L) = (c', L')) := by
      have h5 := HQ.out
      rw [← HE.out, if_neg (by decide)] at h5
      exact h5
    go_wp2_with (first | (refine bx_ld HB.out 0 rfl rfl _ rfl rfl rfl ?_) | (refine bx_st HB.out 2 rfl rfl _ _ rfl rfl (ddL c va n cap) rfl rfl rfl rfl ?_))
    intro WE hb2 hk
    replace HB : Hid (Bxs w [(DdK, b4, ddL c va n cap), (PxK, b5, [.int .u32 p1, .int .i64 p2]), (DdK, b8, ddL c va n cap)] WE) := hb2.out
    clear hb2 hk
    have HF : Hid (DfPost w va c' L' er (.returned (.tuple #[.agg (ddL c va n cap).toArray, .int .i64 13])) WE) := by
      obtain ⟨rfl, rfl⟩ := Prod.mk.inj HQ2.out
      rw [← HE.out]
      exact ⟨va, n, cap, rfl, H.out.bel HB.out.bel, HN.out, fun _ _ _ _ => .inl rfl, HB.out.bel⟩
    go_wp2_with fail
    exact bodyPost_ret (dflap_res (HB.out.get 2 rfl) rfl rfl) rfl HF.out
  have c46 : W4.cell? ⟨b4, 6, none⟩ = some (.int .i64 (c.clock : Int)) := (HB.out.get 0 rfl).cell 6
  by_cases hn1 : now < c.clock
  case pos =>
    have HE : Hid (2 = er) := by show _ = _; rw [← HER.out]; unfold chkQ; rw [if_neg HVN.out, if_neg (by omega), if_pos (by omega)]
    have HQ2 : Hid ((c, L) = (c', L')) := by
      have h5 := HQ.out
      rw [← HE.out, if_neg (by decide)] at h5
      exact h5
    go_wp2_with (first | (refine bx_ld HB.out 0 rfl rfl _ rfl rfl rfl ?_) | (refine bx_st HB.out 2 rfl rfl _ _ rfl rfl (ddL c va n cap) rfl rfl rfl rfl ?_))
    intro WE hb2 hk
    replace HB : Hid (Bxs w [(DdK, b4, ddL c va n cap), (PxK, b5, [.int .u32 p1, .int .i64 p2]), (DdK, b8, ddL c va n cap)] WE) := hb2.out
    clear hb2 hk
    have HF : Hid (DfPost w va c' L' er (.returned (.tuple #[.agg (ddL c va n cap).toArray, .int .i64 2])) WE) := by
      obtain ⟨rfl, rfl⟩ := Prod.mk.inj HQ2.out
      rw [← HE.out]
      exact ⟨va, n, cap, rfl, H.out.bel HB.out.bel, HN.out, fun _ _ _ _ => .inl rfl, HB.out.bel⟩
    go_wp2_with fail
    exact bodyPost_ret (dflap_res (HB.out.get 2 rfl) rfl rfl) rfl HF.out
  by_cases hn2 : 1099511627776 < now
  case pos =>
    have HE : Hid (2 = er) := by show _ = _; rw [← HER.out]; unfold chkQ; rw [if_neg HVN.out, if_neg (by omega), if_pos (by omega)]
    have HQ2 : Hid ((c, L) = (c', L')) := by
      have h5 := HQ.out
      rw [← HE.out, if_neg (by decide)] at h5
      exact h5
    go_wp2_with (first | (refine bx_ld HB.out 0 rfl rfl _ rfl rfl rfl ?_) | (refine bx_st HB.out 2 rfl rfl _ _ rfl rfl (ddL c va n cap) rfl rfl rfl rfl ?_))
    intro WE hb2 hk
    replace HB : Hid (Bxs w [(DdK, b4, ddL c va n cap), (PxK, b5, [.int .u32 p1, .int .i64 p2]), (DdK, b8, ddL c va n cap)] WE) := hb2.out
    clear hb2 hk
    have HF : Hid (DfPost w va c' L' er (.returned (.tuple #[.agg (ddL c va n cap).toArray, .int .i64 2])) WE) := by
      obtain ⟨rfl, rfl⟩ := Prod.mk.inj HQ2.out
      rw [← HE.out]
      exact ⟨va, n, cap, rfl, H.out.bel HB.out.bel, HN.out, fun _ _ _ _ => .inl rfl, HB.out.bel⟩
    go_wp2_with fail
    exact bodyPost_ret (dflap_res (HB.out.get 2 rfl) rfl rfl) rfl HF.out
  obtain ⟨nw, rfl⟩ : ∃ y : Nat, now = (y : Int) := ⟨now.toNat, by omega⟩
  have HNW : Hid (c.clock ≤ nw ∧ nw ≤ 1099511627776) := by show _ ∧ _; omega
  have HE0 : Hid ((if penP c (dfn L) (p1, p2) nw = 0 ∧ 64 ≤ othP c L (p1, p2) nw then (12 : Int) else 0) = er) := by
    show _ = _
    rw [← HER.out]
    unfold chkQ
    rw [if_neg HVN.out, if_neg (show ¬ ¬ (1 ≤ what ∧ what ≤ 3) by omega), if_neg (show ¬ ¬ ((c.clock : Int) ≤ (nw : Int) ∧ (nw : Int) ≤ 1099511627776) by omega), Int.toNat_natCast]
  rw [Int.toNat_natCast] at HQ
  have HPE := dpen_any c HC.out va n cap L HN.out HBL.out (p1, p2) nw ⟨HNW.out.1, by have := HNW.out.2; omega⟩ W4 (H.out.bel HB.out.bel)
  go_wp2_with (first | (refine bx_ld HB.out 0 rfl rfl _ rfl rfl rfl ?_) | (refine bx_ld HB.out 1 rfl rfl _ rfl rfl rfl ?_))
  refine HPE.mono ?_
  rintro e W5 ⟨rfl, hbl⟩
  replace HB : Hid (Bxs w [(DdK, b4, ddL c va n cap), (PxK, b5, [.int .u32 p1, .int .i64 p2]), (DdK, b8, ddL zc none 0 0)] W5) := HB.out.step hbl
  clear hbl HPE c46 hn1 hn2 HER
  obtain ⟨pz, hpz⟩ : ∃ y, penP c (dfn L) (p1, p2) nw = y := ⟨_, rfl⟩
  rw [hpz] at HE0 ⊢
  have HPZ : Hid (penP c (dfn L) (p1, p2) nw = pz) := hpz
  have hpzm : pz ≤ 1000000 := by
    have h1 := (dfn_bd HBL.out (p1, p2)).1
    have h2 := HC.out.most.2
    have h3 := atP_le c.half (pn (dfn L) (p1, p2)).v (nw - (pn (dfn L) (p1, p2)).s)
    have h4 : penP c (dfn L) (p1, p2) nw = atP c.half (pn (dfn L) (p1, p2)).v (nw - (pn (dfn L) (p1, p2)).s) := rfl
    omega
  clear hpz
  have c47 : W5.cell? ⟨b4, 7, none⟩ = some (.slice va n cap) := (HB.out.get 0 rfl).cell 7
  go_wp2_with fail
  go_loopw [45, 11] (fun iv ov wr => F1 w [(DdK, b4, ddL c va n cap), (PxK, b5, [.int .u32 p1, .int .i64 p2]), (DdK, b8, ddL zc none 0 0)] c L (p1, p2) nw n iv ov wr) (fun i _ _ => n - (intOf i).toNat)
  case atStart => exact ⟨⟨0, by omega, rfl, rfl⟩, HB.out⟩
  case round =>
    obtain ⟨⟨i, hi, rfl, rfl⟩, hbx⟩ := hrel
    clear c47 HB
    have HB : Hid (Bxs w [(DdK, b4, ddL c va n cap), (PxK, b5, [.int .u32 p1, .int .i64 p2]), (DdK, b8, ddL zc none 0 0)] wr) := hbx
    obtain ⟨WA, hwa⟩ : ∃ y, wr = y := ⟨_, rfl⟩
    rw [hwa] at HB ⊢
    clear hbx hwa
    obtain ⟨cn, hcn⟩ : ∃ y, (L.take i).countP (oth1 c L (p1, p2) nw) = y := ⟨_, rfl⟩
    have HCN : Hid ((L.take i).countP (oth1 c L (p1, p2) nw) = cn) := hcn
    have hcnl : cn ≤ 1000000 := by
      have := List.countP_le_length (p := oth1 c L (p1, p2) nw) (l := L.take i)
      rw [List.length_take] at this
      omega
    rw [hcn]
    clear hcn
    by_cases hlt : i < n
    case pos =>
      have hil : i < L.length := by rw [HN.out]; exact hlt
      have hii : (i : Int) < (n : Int) := by omega
      have ii0 : (0 : Int) ≤ (i : Int) := by omega
      obtain ⟨lb, lo, rfl, hlb, hcl⟩ := (H.out.bel HB.out.bel).cells i hil
      obtain ⟨x, hx⟩ : ∃ x, L[i] = x := ⟨_, rfl⟩
      have HXI : Hid (L[i] = x) := hx
      obtain ⟨⟨x1, x2⟩, xv, xs, xh, xd⟩ := x
      have HCE : Hid (∀ W, Below w.heap.size w W → ∀ j, j < 6 → W.cell? ⟨lb, lo + i * 6 + j, none⟩ = (mkL ⟨(x1, x2), xv, xs, xh, xd⟩)[j]?) := fun W hW j hj => by
        obtain ⟨lb', lo', e, -, hc'⟩ := (H.out.bel hW).cells i hil
        cases e
        rw [hx] at hc'
        exact hc' j hj
      clear hx hcl hlb
      have HON : Hid ((L.take (i + 1)).countP (oth1 c L (p1, p2) nw) = cn + (if oth1 c L (p1, p2) nw ⟨(x1, x2), xv, xs, xh, xd⟩ = true then 1 else 0)) := by
        show _ = _
        rw [oth_next hil, HCN.out, HXI.out]
      go_upto_region 12 with fail
      go_cut [67] from 46 to 67 (fun rv wx => rv = .bool (oth1 c L (p1, p2) nw ⟨(x1, x2), xv, xs, xh, xd⟩) ∧ Bxs w [(DdK, b4, ddL c (some ⟨lb, lo, none⟩) n cap), (PxK, b5, [.int .u32 p1, .int .i64 p2]), (DdK, b8, ddL zc none 0 0)] wx)
      case first =>
        go_wp2_with fail
        have HBD : Hid (Bxs w [(DdK, b4, ddL c (some ⟨lb, lo, none⟩) n cap), (PxK, b5, [.int .u32 p1, .int .i64 p2]), (DdK, b8, ddL zc none 0 0)] WA.drew) := HB.out.step (drew_bel WA)
        have HS0 : Hid (SB DdK b4 (ddL c (some ⟨lb, lo, none⟩) n cap) WA.drew ∧ SB PxK b5 [.int .u32 p1, .int .i64 p2] WA.drew ∧ ∀ j, j < 6 → WA.drew.cell? ⟨lb, lo + i * 6 + j, none⟩ = (mkL ⟨(x1, x2), xv, xs, xh, xd⟩)[j]?) := ⟨HBD.out.get 0 rfl, HBD.out.get 1 rfl, HCE.out _ HBD.out.bel⟩
        refine wp_region_held_drew (S := fun W => SB DdK b4 (ddL c (some ⟨lb, lo, none⟩) n cap) W ∧ SB PxK b5 [.int .u32 p1, .int .i64 p2] W ∧ ∀ j, j < 6 → W.cell? ⟨lb, lo + i * 6 + j, none⟩ = (mkL ⟨(x1, x2), xv, xs, xh, xd⟩)[j]?) (by kernel_rfl) HS0.out (fun hHeld => ?_)
        obtain ⟨wd, hwd⟩ : ∃ z, WA.drew = z := ⟨_, rfl⟩
        rw [hwd] at HBD hHeld ⊢
        clear hwd HS0 HB
        by_cases hxp : x1 = p1 ∧ x2 = p2
        case pos =>
          obtain ⟨rfl, rfl⟩ : p1 = x1 ∧ p2 = x2 := ⟨hxp.1.symm, hxp.2.symm⟩
          clear hxp
          refine wpAnyH_take (i := 0) (v := .pointer (some ⟨b4, 7, none⟩)) rfl (by kernel_rfl) (by kernel_rfl) (by kernel_rfl) (fun _ _ _ h => h) (Or.inl ⟨by rfl, ?_⟩) (by assumption) ?_
          case refine_1 => intro W hSw; go_simp; try rfl
          try simp only [Act.put, List.getElem_toArray, List.getElem_cons_zero, List.getElem_cons_succ, List.setIfInBounds_toArray, List.set_cons_zero, List.set_cons_succ]
          refine wpAnyH_take (i := 1) (v := .slice (some ⟨lb, lo, none⟩) n cap) rfl (by kernel_rfl) (by kernel_rfl) (by kernel_rfl) (fun _ _ _ h => h) (Or.inl ⟨by rfl, ?_⟩) (by assumption) ?_
          case refine_1 => intro W hSw; have k1 : W.cell? ⟨b4, 7, none⟩ = some (.slice (some ⟨lb, lo, none⟩) n cap) := hSw.1.cell 7; go_simp; try rfl
          try simp only [Act.put, List.getElem_toArray, List.getElem_cons_zero, List.getElem_cons_succ, List.setIfInBounds_toArray, List.set_cons_zero, List.set_cons_succ]
          refine wpAnyH_take (i := 2) (v := .int .i64 (i : Int)) rfl (by kernel_rfl) (by kernel_rfl) (by kernel_rfl) (fun _ _ _ h => h) (Or.inl ⟨by rfl, ?_⟩) (by assumption) ?_
          case refine_1 => intro W hSw; go_simp; try rfl
          try simp only [Act.put, List.getElem_toArray, List.getElem_cons_zero, List.getElem_cons_succ, List.setIfInBounds_toArray, List.set_cons_zero, List.set_cons_succ]
          refine wpAnyH_take (i := 3) (v := .pointer (some ⟨lb, lo + i * 6, none⟩)) rfl (by kernel_rfl) (by kernel_rfl) (by kernel_rfl) (fun _ _ _ h => h) (Or.inl ⟨by rfl, ?_⟩) (by assumption) ?_
          case refine_1 => intro W hSw; go_simp; try rfl
          try simp only [Act.put, List.getElem_toArray, List.getElem_cons_zero, List.getElem_cons_succ, List.setIfInBounds_toArray, List.set_cons_zero, List.set_cons_succ]
          refine wpAnyH_take (i := 4) (v := .pointer (some ⟨lb, lo + i * 6, none⟩)) rfl (by kernel_rfl) (by kernel_rfl) (by kernel_rfl) (fun _ _ _ h => h) (Or.inl ⟨by rfl, ?_⟩) (by assumption) ?_
          case refine_1 => intro W hSw; go_simp; try rfl
          try simp only [Act.put, List.getElem_toArray, List.getElem_cons_zero, List.getElem_cons_succ, List.setIfInBounds_toArray, List.set_cons_zero, List.set_cons_succ]
          refine wpAnyH_take (i := 5) (v := .agg (pxL (p1, p2)).toArray) rfl (by kernel_rfl) (by kernel_rfl) (by kernel_rfl) (fun _ _ _ h => h) (Or.inl ⟨by rfl, fun W hSw => sat_run PxK (.tmp 52) rfl (b := lb) (k := lo + i * 6) rfl (mk_px hSw.2.2) rfl⟩) (by assumption) ?_
          try simp only [Act.put, List.getElem_toArray, List.getElem_cons_zero, List.getElem_cons_succ, List.setIfInBounds_toArray, List.set_cons_zero, List.set_cons_succ]
          refine wpAnyH_take (i := 6) (v := .agg (pxL (p1, p2)).toArray) rfl (by kernel_rfl) (by kernel_rfl) (by kernel_rfl) (fun _ _ _ h => h) (Or.inl ⟨by rfl, fun W hSw => Go.Proofs.Ytjfiahendnlcjaa.Ge.sload_run PxK (.tmp 5) rfl (b := b5) rfl hSw.2.1 rfl⟩) (by assumption) ?_
          try simp only [Act.put, List.getElem_toArray, List.getElem_cons_zero, List.getElem_cons_succ, List.setIfInBounds_toArray, List.set_cons_zero, List.set_cons_succ]
          refine wpAnyH_take (i := 7) (v := .bool false) rfl (by kernel_rfl) (by kernel_rfl) (by kernel_rfl) (fun _ _ _ h => h) (Or.inl ⟨by rfl, ?_⟩) (by assumption) ?_
          case refine_1 => intro W hSw; unfold pxL; go_simp; try rfl
          try simp only [Act.put, List.getElem_toArray, List.getElem_cons_zero, List.getElem_cons_succ, List.setIfInBounds_toArray, List.set_cons_zero, List.set_cons_succ]
          refine wpAnyH_take (i := 8) (v := .bool false) rfl (by kernel_rfl) (by kernel_rfl) (by kernel_rfl) (fun _ _ _ h => h) (Or.inl ⟨by rfl, ?_⟩) (by assumption) ?_
          case refine_1 => intro W hSw; go_simp; try rfl
          try simp only [Act.put, List.getElem_toArray, List.getElem_cons_zero, List.getElem_cons_succ, List.setIfInBounds_toArray, List.set_cons_zero, List.set_cons_succ]
          refine wpAnyH_take (i := 9) (v := undef) rfl (by kernel_rfl) (by kernel_rfl) (by kernel_rfl) (fun _ _ _ h => h) (Or.inr ⟨by rfl, rfl⟩) (by assumption) ?_
          try simp only [Act.put, List.getElem_toArray, List.getElem_cons_zero, List.getElem_cons_succ, List.setIfInBounds_toArray, List.set_cons_zero, List.set_cons_succ]
          refine wpAnyH_take (i := 10) (v := undef) rfl (by kernel_rfl) (by kernel_rfl) (by kernel_rfl) (fun _ _ _ h => h) (Or.inr ⟨by rfl, rfl⟩) (by assumption) ?_
          try simp only [Act.put, List.getElem_toArray, List.getElem_cons_zero, List.getElem_cons_succ, List.setIfInBounds_toArray, List.set_cons_zero, List.set_cons_succ]
          refine wpAnyH_take (i := 11) (v := undef) rfl (by kernel_rfl) (by kernel_rfl) (by kernel_rfl) (fun _ _ _ h => h) (Or.inr ⟨by rfl, rfl⟩) (by assumption) ?_
          try simp only [Act.put, List.getElem_toArray, List.getElem_cons_zero, List.getElem_cons_succ, List.setIfInBounds_toArray, List.set_cons_zero, List.set_cons_succ]
          refine wpAnyH_take (i := 12) (v := undef) rfl (by kernel_rfl) (by kernel_rfl) (by kernel_rfl) (fun _ _ _ h => h) (Or.inr ⟨by rfl, rfl⟩) (by assumption) ?_
          try simp only [Act.put, List.getElem_toArray, List.getElem_cons_zero, List.getElem_cons_succ, List.setIfInBounds_toArray, List.set_cons_zero, List.set_cons_succ]
          refine wpAnyH_take (i := 13) (v := undef) rfl (by kernel_rfl) (by kernel_rfl) (by kernel_rfl) (fun _ _ _ h => h) (Or.inr ⟨by rfl, rfl⟩) (by assumption) ?_
          try simp only [Act.put, List.getElem_toArray, List.getElem_cons_zero, List.getElem_cons_succ, List.setIfInBounds_toArray, List.set_cons_zero, List.set_cons_succ]
          refine wpAnyH_take (i := 14) (v := undef) rfl (by kernel_rfl) (by kernel_rfl) (by kernel_rfl) (fun _ _ _ h => h) (Or.inr ⟨by rfl, rfl⟩) (by assumption) ?_
          try simp only [Act.put, List.getElem_toArray, List.getElem_cons_zero, List.getElem_cons_succ, List.setIfInBounds_toArray, List.set_cons_zero, List.set_cons_succ]
          refine wpAnyH_take (i := 15) (v := undef) rfl (by kernel_rfl) (by kernel_rfl) (by kernel_rfl) (fun _ _ _ h => h) (Or.inr ⟨by rfl, rfl⟩) (by assumption) ?_
          try simp only [Act.put, List.getElem_toArray, List.getElem_cons_zero, List.getElem_cons_succ, List.setIfInBounds_toArray, List.set_cons_zero, List.set_cons_succ]
          refine wpAnyH_take (i := 16) (v := undef) rfl (by kernel_rfl) (by kernel_rfl) (by kernel_rfl) (fun _ _ _ h => h) (Or.inr ⟨by rfl, rfl⟩) (by assumption) ?_
          try simp only [Act.put, List.getElem_toArray, List.getElem_cons_zero, List.getElem_cons_succ, List.setIfInBounds_toArray, List.set_cons_zero, List.set_cons_succ]
          refine wpAnyH_take (i := 17) (v := undef) rfl (by kernel_rfl) (by kernel_rfl) (by kernel_rfl) (fun _ _ _ h => h) (Or.inr ⟨by rfl, rfl⟩) (by assumption) ?_
          try simp only [Act.put, List.getElem_toArray, List.getElem_cons_zero, List.getElem_cons_succ, List.setIfInBounds_toArray, List.set_cons_zero, List.set_cons_succ]
          refine wpAnyH_take (i := 18) (v := undef) rfl (by kernel_rfl) (by kernel_rfl) (by kernel_rfl) (fun _ _ _ h => h) (Or.inr ⟨by rfl, rfl⟩) (by assumption) ?_
          try simp only [Act.put, List.getElem_toArray, List.getElem_cons_zero, List.getElem_cons_succ, List.setIfInBounds_toArray, List.set_cons_zero, List.set_cons_succ]
          refine wpAnyH_take (i := 19) (v := .bool false) rfl (by kernel_rfl) (by kernel_rfl) (by kernel_rfl) (fun _ _ _ h => h) (Or.inl ⟨by rfl, ?_⟩) (by assumption) ?_
          case refine_1 => intro W hSw; go_simp; try rfl
          try simp only [Act.put, List.getElem_toArray, List.getElem_cons_zero, List.getElem_cons_succ, List.setIfInBounds_toArray, List.set_cons_zero, List.set_cons_succ]
          refine wpAnyH_done (by kernel_rfl) ?_ _
          clear hHeld
          have HOE : Hid (oth1 c L (p1, p2) nw ⟨(p1, p2), xv, xs, xh, xd⟩ = false) := by show _ = _; unfold oth1; rw [decide_eq_false]; exact fun k => k.1 rfl
          go_wp2_with fail
          go_meet
          exact ⟨by rw [HOE.out], HBD.out⟩
        case neg =>
          have hor : x1 ≠ p1 ∨ (x1 = p1 ∧ x2 ≠ p2) := by omega
          clear hxp
          refine wpAnyH_take (i := 0) (v := .pointer (some ⟨b4, 7, none⟩)) rfl (by kernel_rfl) (by kernel_rfl) (by kernel_rfl) (fun _ _ _ h => h) (Or.inl ⟨by rfl, ?_⟩) (by assumption) ?_
          case refine_1 => intro W hSw; go_simp; try rfl
          try simp only [Act.put, List.getElem_toArray, List.getElem_cons_zero, List.getElem_cons_succ, List.setIfInBounds_toArray, List.set_cons_zero, List.set_cons_succ]
          refine wpAnyH_take (i := 1) (v := .slice (some ⟨lb, lo, none⟩) n cap) rfl (by kernel_rfl) (by kernel_rfl) (by kernel_rfl) (fun _ _ _ h => h) (Or.inl ⟨by rfl, ?_⟩) (by assumption) ?_
          case refine_1 => intro W hSw; have k1 : W.cell? ⟨b4, 7, none⟩ = some (.slice (some ⟨lb, lo, none⟩) n cap) := hSw.1.cell 7; go_simp; try rfl
          try simp only [Act.put, List.getElem_toArray, List.getElem_cons_zero, List.getElem_cons_succ, List.setIfInBounds_toArray, List.set_cons_zero, List.set_cons_succ]
          refine wpAnyH_take (i := 2) (v := .int .i64 (i : Int)) rfl (by kernel_rfl) (by kernel_rfl) (by kernel_rfl) (fun _ _ _ h => h) (Or.inl ⟨by rfl, ?_⟩) (by assumption) ?_
          case refine_1 => intro W hSw; go_simp; try rfl
          try simp only [Act.put, List.getElem_toArray, List.getElem_cons_zero, List.getElem_cons_succ, List.setIfInBounds_toArray, List.set_cons_zero, List.set_cons_succ]
          refine wpAnyH_take (i := 3) (v := .pointer (some ⟨lb, lo + i * 6, none⟩)) rfl (by kernel_rfl) (by kernel_rfl) (by kernel_rfl) (fun _ _ _ h => h) (Or.inl ⟨by rfl, ?_⟩) (by assumption) ?_
          case refine_1 => intro W hSw; go_simp; try rfl
          try simp only [Act.put, List.getElem_toArray, List.getElem_cons_zero, List.getElem_cons_succ, List.setIfInBounds_toArray, List.set_cons_zero, List.set_cons_succ]
          refine wpAnyH_take (i := 4) (v := .pointer (some ⟨lb, lo + i * 6, none⟩)) rfl (by kernel_rfl) (by kernel_rfl) (by kernel_rfl) (fun _ _ _ h => h) (Or.inl ⟨by rfl, ?_⟩) (by assumption) ?_
          case refine_1 => intro W hSw; go_simp; try rfl
          try simp only [Act.put, List.getElem_toArray, List.getElem_cons_zero, List.getElem_cons_succ, List.setIfInBounds_toArray, List.set_cons_zero, List.set_cons_succ]
          refine wpAnyH_take (i := 5) (v := .agg (pxL (x1, x2)).toArray) rfl (by kernel_rfl) (by kernel_rfl) (by kernel_rfl) (fun _ _ _ h => h) (Or.inl ⟨by rfl, fun W hSw => sat_run PxK (.tmp 52) rfl (b := lb) (k := lo + i * 6) rfl (mk_px hSw.2.2) rfl⟩) (by assumption) ?_
          try simp only [Act.put, List.getElem_toArray, List.getElem_cons_zero, List.getElem_cons_succ, List.setIfInBounds_toArray, List.set_cons_zero, List.set_cons_succ]
          refine wpAnyH_take (i := 6) (v := .agg (pxL (p1, p2)).toArray) rfl (by kernel_rfl) (by kernel_rfl) (by kernel_rfl) (fun _ _ _ h => h) (Or.inl ⟨by rfl, fun W hSw => Go.Proofs.Ytjfiahendnlcjaa.Ge.sload_run PxK (.tmp 5) rfl (b := b5) rfl hSw.2.1 rfl⟩) (by assumption) ?_
          try simp only [Act.put, List.getElem_toArray, List.getElem_cons_zero, List.getElem_cons_succ, List.setIfInBounds_toArray, List.set_cons_zero, List.set_cons_succ]
          refine wpAnyH_take (i := 7) (v := .bool true) rfl (by kernel_rfl) (by kernel_rfl) (by kernel_rfl) (fun _ _ _ h => h) (Or.inl ⟨by rfl, ?_⟩) (by assumption) ?_
          case refine_1 => intro W hSw; unfold pxL; rcases hor with hne | ⟨rfl, hne⟩ <;> have hnb := beq_false_of_ne hne <;> go_simp; try rfl
          try simp only [Act.put, List.getElem_toArray, List.getElem_cons_zero, List.getElem_cons_succ, List.setIfInBounds_toArray, List.set_cons_zero, List.set_cons_succ]
          refine wpAnyH_take (i := 8) (v := .bool true) rfl (by kernel_rfl) (by kernel_rfl) (by kernel_rfl) (fun _ _ _ h => h) (Or.inl ⟨by rfl, ?_⟩) (by assumption) ?_
          case refine_1 => intro W hSw; go_simp; try rfl
          try simp only [Act.put, List.getElem_toArray, List.getElem_cons_zero, List.getElem_cons_succ, List.setIfInBounds_toArray, List.set_cons_zero, List.set_cons_succ]
          refine wpAnyH_take (i := 9) (v := .agg (ddL c (some ⟨lb, lo, none⟩) n cap).toArray) rfl (by kernel_rfl) (by kernel_rfl) (by kernel_rfl) (fun _ _ _ h => h) (Or.inl ⟨by rfl, fun W hSw => Go.Proofs.Ytjfiahendnlcjaa.Ge.sload_run DdK (.tmp 4) rfl (b := b4) rfl hSw.1 rfl⟩) (by assumption) ?_
          try simp only [Act.put, List.getElem_toArray, List.getElem_cons_zero, List.getElem_cons_succ, List.setIfInBounds_toArray, List.set_cons_zero, List.set_cons_succ]
          refine wpAnyH_take (i := 10) (v := .pointer (some ⟨b4, 7, none⟩)) rfl (by kernel_rfl) (by kernel_rfl) (by kernel_rfl) (fun _ _ _ h => h) (Or.inl ⟨by rfl, ?_⟩) (by assumption) ?_
          case refine_1 => intro W hSw; go_simp; try rfl
          try simp only [Act.put, List.getElem_toArray, List.getElem_cons_zero, List.getElem_cons_succ, List.setIfInBounds_toArray, List.set_cons_zero, List.set_cons_succ]
          refine wpAnyH_take (i := 11) (v := .slice (some ⟨lb, lo, none⟩) n cap) rfl (by kernel_rfl) (by kernel_rfl) (by kernel_rfl) (fun _ _ _ h => h) (Or.inl ⟨by rfl, ?_⟩) (by assumption) ?_
          case refine_1 => intro W hSw; have k1 : W.cell? ⟨b4, 7, none⟩ = some (.slice (some ⟨lb, lo, none⟩) n cap) := hSw.1.cell 7; go_simp; try rfl
          try simp only [Act.put, List.getElem_toArray, List.getElem_cons_zero, List.getElem_cons_succ, List.setIfInBounds_toArray, List.set_cons_zero, List.set_cons_succ]
          refine wpAnyH_take (i := 12) (v := .int .i64 (i : Int)) rfl (by kernel_rfl) (by kernel_rfl) (by kernel_rfl) (fun _ _ _ h => h) (Or.inl ⟨by rfl, ?_⟩) (by assumption) ?_
          case refine_1 => intro W hSw; go_simp; try rfl
          try simp only [Act.put, List.getElem_toArray, List.getElem_cons_zero, List.getElem_cons_succ, List.setIfInBounds_toArray, List.set_cons_zero, List.set_cons_succ]
          refine wpAnyH_take (i := 13) (v := .pointer (some ⟨lb, lo + i * 6, none⟩)) rfl (by kernel_rfl) (by kernel_rfl) (by kernel_rfl) (fun _ _ _ h => h) (Or.inl ⟨by rfl, ?_⟩) (by assumption) ?_
          case refine_1 => intro W hSw; go_simp; try rfl
          try simp only [Act.put, List.getElem_toArray, List.getElem_cons_zero, List.getElem_cons_succ, List.setIfInBounds_toArray, List.set_cons_zero, List.set_cons_succ]
          refine wpAnyH_take (i := 14) (v := .pointer (some ⟨lb, lo + i * 6, none⟩)) rfl (by kernel_rfl) (by kernel_rfl) (by kernel_rfl) (fun _ _ _ h => h) (Or.inl ⟨by rfl, ?_⟩) (by assumption) ?_
          case refine_1 => intro W hSw; go_simp; try rfl
          try simp only [Act.put, List.getElem_toArray, List.getElem_cons_zero, List.getElem_cons_succ, List.setIfInBounds_toArray, List.set_cons_zero, List.set_cons_succ]
          refine wpAnyH_take (i := 15) (v := .agg (pxL (x1, x2)).toArray) rfl (by kernel_rfl) (by kernel_rfl) (by kernel_rfl) (fun _ _ _ h => h) (Or.inl ⟨by rfl, fun W hSw => sat_run PxK (.tmp 62) rfl (b := lb) (k := lo + i * 6) rfl (mk_px hSw.2.2) rfl⟩) (by assumption) ?_
          try simp only [Act.put, List.getElem_toArray, List.getElem_cons_zero, List.getElem_cons_succ, List.setIfInBounds_toArray, List.set_cons_zero, List.set_cons_succ]
          refine wpAnyH_take (i := 16) (v := .int .i64 (nw : Int)) rfl (by kernel_rfl) (by kernel_rfl) (by kernel_rfl) (fun _ _ _ h => h) (Or.inl ⟨by rfl, ?_⟩) (by assumption) ?_
          case refine_1 => intro W hSw; go_simp; try rfl
          try simp only [Act.put, List.getElem_toArray, List.getElem_cons_zero, List.getElem_cons_succ, List.setIfInBounds_toArray, List.set_cons_zero, List.set_cons_succ]
          refine wpAnyH_ready (rs := [17]) (by kernel_rfl) (by simp) ?_
          refine AllReadyH.cons rfl (fun K hK => ?_) AllReadyH.nil
          have HPX := dpen_any c HC.out (some ⟨lb, lo, none⟩) n cap L HN.out HBL.out (x1, x2) nw ⟨HNW.out.1, by have := HNW.out.2; omega⟩ wd (H.out.bel HBD.out.bel)
          go_simp
          refine HPX.mono ?_
          rintro e we ⟨rfl, hbe⟩
          have HBE : Hid (Bxs w [(DdK, b4, ddL c (some ⟨lb, lo, none⟩) n cap), (PxK, b5, [.int .u32 p1, .int .i64 p2]), (DdK, b8, ddL zc none 0 0)] we) := HBD.out.step hbe
          refine hK.out _ _ ⟨HBE.out.get 0 rfl, HBE.out.get 1 rfl, HCE.out _ HBE.out.bel⟩ (fun hHeld => ?_)
          clear hK K hbe HPX
          obtain ⟨px, hpx⟩ : ∃ y, penP c (dfn L) (x1, x2) nw = y := ⟨_, rfl⟩
          rw [hpx]
          obtain ⟨r, hr⟩ : ∃ y, decide (0 < px) = y := ⟨_, rfl⟩
          have hr2 : decide ((0 : Int) < (px : Int)) = r := by rw [← hr]; exact decide_eq_decide.2 (by omega)
          have HOE : Hid (oth1 c L (p1, p2) nw ⟨(x1, x2), xv, xs, xh, xd⟩ = r) := by
            show _ = _
            unfold oth1
            rw [← hr, hpx]
            exact decide_eq_decide.2 ⟨fun k => k.2, fun k => ⟨fun e => (by cases e; rcases hor with h9 | h9 <;> simp at h9), k⟩⟩
          clear hpx
          try simp only [Act.put, List.getElem_toArray, List.getElem_cons_zero, List.getElem_cons_succ, List.setIfInBounds_toArray, List.set_cons_zero, List.set_cons_succ]
          refine wpAnyH_take (i := 18) (v := .bool r) rfl (by kernel_rfl) (by kernel_rfl) (by kernel_rfl) (fun _ _ _ h => h) (Or.inl ⟨by rfl, ?_⟩) (by assumption) ?_
          case refine_1 => intro W hSw; go_simp; try rfl
          try simp only [Act.put, List.getElem_toArray, List.getElem_cons_zero, List.getElem_cons_succ, List.setIfInBounds_toArray, List.set_cons_zero, List.set_cons_succ]
          refine wpAnyH_take (i := 19) (v := .bool r) rfl (by kernel_rfl) (by kernel_rfl) (by kernel_rfl) (fun _ _ _ h => h) (Or.inl ⟨by rfl, ?_⟩) (by assumption) ?_
          case refine_1 => intro W hSw; go_simp; try rfl
          try simp only [Act.put, List.getElem_toArray, List.getElem_cons_zero, List.getElem_cons_succ, List.setIfInBounds_toArray, List.set_cons_zero, List.set_cons_succ]
          refine wpAnyH_done (by kernel_rfl) ?_ _
          clear hHeld hr hr2
          go_wp2_with fail
          go_meet
          exact ⟨by rw [HOE.out], HBE.out⟩
      case rest =>
        obtain ⟨rfl, hbx⟩ := hcut
        replace HB : Hid (Bxs w [(DdK, b4, ddL c (some ⟨lb, lo, none⟩) n cap), (PxK, b5, [.int .u32 p1, .int .i64 p2]), (DdK, b8, ddL zc none 0 0)] wc) := hbx
        clear hbx
        cases ho : oth1 c L (p1, p2) nw ⟨(x1, x2), xv, xs, xh, xd⟩
        case false =>
          rw [ho] at HON
          have HON2 : Hid ((L.take (i + 1)).countP (oth1 c L (p1, p2) nw) = cn) := HON.out
          clear HON ho
          go_wp2_with fail
          refine ⟨⟨⟨i + 1, by omega, by simp, by first | (rw [HON2.out]; done) | (rw [HON2.out]; simp)⟩, HB.out⟩, ?_⟩
          simp [intOf]
          omega
        case true =>
          rw [ho] at HON
          have HON2 : Hid ((L.take (i + 1)).countP (oth1 c L (p1, p2) nw) = cn + 1) := HON.out
          clear HON ho
          have hw1' : wrap64 ((cn : Int) + 1) = ((cn + 1 : Nat) : Int) := by rw [IntWalk.wrap64_in _ (by omega)]; omega
          have hw2' : IntKind.i64.wrap ((cn : Int) + 1) = ((cn + 1 : Nat) : Int) := by rw [IntWalk.i64_in _ (by omega)]; omega
          go_wp2_with fail
          refine ⟨⟨⟨i + 1, by omega, by simp, by first | (rw [HON2.out]; done) | (rw [HON2.out]; simp)⟩, HB.out⟩, ?_⟩
          simp [intOf]
          omega
    case neg =>
      have hii : ¬ (i : Int) < (n : Int) := by omega
      have HOT : Hid (othP c L (p1, p2) nw = cn) := by
        have h1 : L.take i = L := List.take_of_length_le (by have := HN.out; omega)
        have h2 := HCN.out
        rw [h1] at h2
        exact h2
      rw [HOT.out] at HE0
      clear HCN HOT
      by_cases h12 : pz = 0 ∧ 64 ≤ cn
      case pos =>
        have HE : Hid (12 = er) := by show _ = _; rw [← HE0.out, if_pos h12]
        have z1b : ((pz : Int) == 0) = true := by simpa using h12.1
        have z2i : (64 : Int) ≤ (cn : Int) := by have := h12.2; omega
        clear h12
        have HQ2 : Hid ((c, L) = (c', L')) := by
          have h5 := HQ.out
          rw [← HE.out, if_neg (by decide)] at h5
          exact h5
        go_wp2_with (first | (refine bx_ld HB.out 0 rfl rfl _ rfl rfl rfl ?_) | (refine bx_st HB.out 2 rfl rfl _ _ rfl rfl (ddL c va n cap) rfl rfl rfl rfl ?_))
        intro WE hb2 hk
        replace HB : Hid (Bxs w [(DdK, b4, ddL c va n cap), (PxK, b5, [.int .u32 p1, .int .i64 p2]), (DdK, b8, ddL c va n cap)] WE) := hb2.out
        clear hb2 hk
        have HF : Hid (DfPost w va c' L' er (.returned (.tuple #[.agg (ddL c va n cap).toArray, .int .i64 12])) WE) := by
          obtain ⟨rfl, rfl⟩ := Prod.mk.inj HQ2.out
          rw [← HE.out]
          exact ⟨va, n, cap, rfl, H.out.bel HB.out.bel, HN.out, fun _ _ _ _ => .inl rfl, HB.out.bel⟩
        go_wp2_with fail
        exact bodyPost_ret (dflap_res (HB.out.get 2 rfl) rfl rfl) rfl HF.out
      have HE : Hid (0 = er) := by show _ = _; rw [← HE0.out, if_neg h12]
      have HH12 : Hid (¬ (pz = 0 ∧ 64 ≤ cn)) := h12
      have HQ2 : Hid (clkD c nw = c' ∧ dput L (fmk c L (p1, p2) what nw) = L') := by
        have h5 := HQ.out
        rw [← HE.out, if_pos rfl] at h5
        exact Prod.mk.inj h5
      clear h12 HE0 HQ
      go_upto_region 15 with fail
      go_cut [76] from 71 to 154 (fun rv wx => rv = .bool false ∧ wx = WA)
      case first =>
        by_cases hz1 : pz = 0
        · have z1b : ((pz : Int) == 0) = true := by simpa using hz1
          have z2i : ¬ (64 : Int) ≤ (cn : Int) := by have := HH12.out; omega
          clear hz1
          go_wp2_with fail
          go_meet
          exact ⟨rfl, rfl⟩
        · have z1b : ((pz : Int) == 0) = false := by simpa using hz1
          clear hz1
          go_wp2_with fail
          go_meet
          exact ⟨rfl, rfl⟩
      case rest =>
      obtain ⟨rfl, rfl⟩ : _ ∧ WA = wc := ⟨hcut.1, hcut.2.symm⟩
      clear HH12
      have HHE := dheld_any c HC.out va n cap L HN.out HBL.out (p1, p2) nw ⟨HNW.out.1, by have := HNW.out.2; omega⟩ WA (H.out.bel HB.out.bel)
      go_wp2_with (first | (refine bx_ld HB.out 0 rfl rfl _ rfl rfl rfl ?_) | (refine bx_ld HB.out 1 rfl rfl _ rfl rfl rfl ?_))
      refine HHE.mono ?_
      rintro e W6 ⟨rfl, hbl⟩
      replace HB : Hid (Bxs w [(DdK, b4, ddL c va n cap), (PxK, b5, [.int .u32 p1, .int .i64 p2]), (DdK, b8, ddL zc none 0 0)] W6) := HB.out.step hbl
      clear hbl HHE
      obtain ⟨h0, hh0⟩ : ∃ y, heldP c (dfn L) (p1, p2) nw = y := ⟨_, rfl⟩
      rw [hh0]
      have HH0 : Hid (heldP c (dfn L) (p1, p2) nw = h0) := hh0
      obtain ⟨s, hs⟩ : ∃ y, pz + priceP c what = y := ⟨_, rfl⟩
      have HS : Hid (pz + priceP c what = s) := hs
      obtain ⟨v, hv⟩ : ∃ y, min s c.most = y := ⟨_, rfl⟩
      have HVL : Hid (valP c (dfn L) (p1, p2) what nw = v) := by show _ = _; unfold valP; rw [HPZ.out, hs, hv]
      have HVM : Hid (min s c.most = v) := hv
      have hmm := HC.out.most.2
      have hsl : s ≤ 2000000 := by
        have h1 := HC.out.down; have h2 := HC.out.change
        rw [← hs]
        unfold priceP
        split
        · omega
        · split <;> omega
      clear hh0 hs hv
      have c44 : W6.cell? ⟨b4, 4, none⟩ = some (.int .i64 (c.down : Int)) := (HB.out.get 0 rfl).cell 4
      have c45 : W6.cell? ⟨b4, 5, none⟩ = some (.int .i64 (c.change : Int)) := (HB.out.get 0 rfl).cell 5
      have c43 : W6.cell? ⟨b4, 3, none⟩ = some (.int .i64 (c.most : Int)) := (HB.out.get 0 rfl).cell 3
      have c41 : W6.cell? ⟨b4, 1, none⟩ = some (.int .i64 (c.limit : Int)) := (HB.out.get 0 rfl).cell 1
      go_upto_block 2 with fail
      go_cut [10] from 83 to 154 (fun vv wx => vv = .int .i64 (s : Int) ∧ wx = W6)
      case first =>
        by_cases hk1 : what = 1
        · have h1b : (what == 1) = true := by simpa using hk1
          have HS1 : Hid ((pz : Int) + (c.down : Int) = (s : Int)) := by have := HS.out; unfold priceP at this; rw [if_pos hk1] at this; show _ = _; omega
          have hs2 : wrap64 ((pz : Int) + (c.down : Int)) = (s : Int) := by rw [HS1.out]; exact IntWalk.wrap64_in _ (by omega)
          have hs3 : IntKind.i64.wrap ((pz : Int) + (c.down : Int)) = (s : Int) := by rw [HS1.out]; exact IntWalk.i64_in _ (by omega)
          clear hk1
          go_wp2_with fail
          go_meet
          exact ⟨by first | rfl | (simp [hs2, hs3]; done) | (rw [HS1.out]), rfl⟩
        · have h1b : (what == 1) = false := by simpa using hk1
          by_cases hk2 : what = 2
          · have h2b : (what == 2) = true := by simpa using hk2
            have HS1 : Hid ((pz : Int) + (c.change : Int) = (s : Int)) := by have := HS.out; unfold priceP at this; rw [if_neg hk1, if_pos hk2] at this; show _ = _; omega
            have hs2 : wrap64 ((pz : Int) + (c.change : Int)) = (s : Int) := by rw [HS1.out]; exact IntWalk.wrap64_in _ (by omega)
            have hs3 : IntKind.i64.wrap ((pz : Int) + (c.change : Int)) = (s : Int) := by rw [HS1.out]; exact IntWalk.i64_in _ (by omega)
            clear hk1 hk2
            go_wp2_with fail
            go_meet
            exact ⟨by first | rfl | (simp [hs2, hs3]; done) | (rw [HS1.out]), rfl⟩
          · have h2b : (what == 2) = false := by simpa using hk2
            have HS1 : Hid (pz = s) := by have := HS.out; unfold priceP at this; rw [if_neg hk1, if_neg hk2] at this; exact this
            clear hk1 hk2
            go_wp2_with fail
            go_meet
            exact ⟨by rw [HS1.out], rfl⟩
      case rest =>
      obtain ⟨rfl, rfl⟩ : _ ∧ W6 = wc := ⟨hcut.1, hcut.2.symm⟩
      go_upto_if 101 with fail
      go_cut [10, 101] from 102 to 154 (fun vv _ wx => vv = .int .i64 (v : Int) ∧ wx = W6)
      case first =>
        by_cases hmo : c.most < s
        · have hmi : (c.most : Int) < (s : Int) := by omega
          have HE2 : Hid (c.most = v) := by have := HVM.out; show _ = _; omega
          go_wp2_with fail
          go_meet
          exact ⟨by rw [HE2.out], rfl⟩
        · have hmi : ¬ (c.most : Int) < (s : Int) := by omega
          have HE2 : Hid (s = v) := by have := HVM.out; show _ = _; omega
          go_wp2_with fail
          go_meet
          exact ⟨by rw [HE2.out], rfl⟩
      case rest =>
      obtain ⟨rfl, rfl⟩ : _ ∧ W6 = wc := ⟨hcut.1, hcut.2.symm⟩
      clear c44 c45 c43 c41 hsl HS HVM
      go_wp2_with (first | (refine bx_ld HB.out 1 rfl rfl _ rfl rfl rfl ?_) | (refine list_mknew rfl rfl ?_))
      intro b14 W7 hbe hx hb
      replace HB : Hid (Bxs w [(DdK, b4, ddL c va n cap), (PxK, b5, [.int .u32 p1, .int .i64 p2]), (DdK, b8, ddL zc none 0 0), (MkK, b14, mkL ⟨(0, 0), 0, 0, false, false⟩)] W7) := HB.out.new hbe.out hx.out hb.out
      clear hbe hx hb
      go_wp2_with (refine bx_st HB.out 3 rfl rfl _ _ rfl rfl (mkL ⟨(p1, p2), v, nw, h0, false⟩) rfl rfl rfl rfl ?_)
      intro W8 hb2 hk
      replace HB : Hid (Bxs w [(DdK, b4, ddL c va n cap), (PxK, b5, [.int .u32 p1, .int .i64 p2]), (DdK, b8, ddL zc none 0 0), (MkK, b14, mkL ⟨(p1, p2), v, nw, h0, false⟩)] W8) := hb2.out
      clear hb2 hk
      have HFI := find_any c va n cap L HN.out (p1, p2) W8 (H.out.bel HB.out.bel)
      go_wp2_with (first | (refine bx_ld HB.out 0 rfl rfl _ rfl rfl rfl ?_) | (refine bx_ld HB.out 1 rfl rfl _ rfl rfl rfl ?_))
      refine HFI.mono ?_
      rintro e W9 ⟨rfl, hbl⟩
      replace HB : Hid (Bxs w [(DdK, b4, ddL c va n cap), (PxK, b5, [.int .u32 p1, .int .i64 p2]), (DdK, b8, ddL zc none 0 0), (MkK, b14, mkL ⟨(p1, p2), v, nw, h0, false⟩)] W9) := HB.out.step hbl
      clear hbl HFI
      obtain ⟨ix, hix⟩ : ∃ y, dix L (p1, p2) = y := ⟨_, rfl⟩
      have HIX : Hid (dix L (p1, p2) = ix) := hix
      rw [hix]
      obtain ⟨d0, hd0⟩ : ∃ y, ddue L (p1, p2) = y := ⟨_, rfl⟩
      have HD0 : Hid (ddue L (p1, p2) = d0) := hd0
      clear hix hd0
      go_upto_if 114 with fail
      go_cut [114] from 115 to 154 (fun _ wx => Bxs w [(DdK, b4, ddL c va n cap), (PxK, b5, [.int .u32 p1, .int .i64 p2]), (DdK, b8, ddL zc none 0 0), (MkK, b14, mkL ⟨(p1, p2), v, nw, h0, d0⟩)] wx)
      case first =>
        rcases dix_cases L (p1, p2) with ⟨hz, hg⟩ | ⟨i2, hi2, hz, hp2, hg⟩
        · have HE2 : Hid (d0 = false) := by show _ = _; rw [← HD0.out]; unfold ddue; rw [hg]; rfl
          have hzi : ¬ (0 : Int) ≤ ix := by rw [← HIX.out, hz]; decide
          clear hz hg
          go_wp2_with fail
          go_meet
          rw [HE2.out]
          exact HB.out
        · obtain ⟨lb, lo, rfl, hlb, hcl⟩ := (H.out.bel HB.out.bel).cells i2 hi2
          obtain ⟨x, hx⟩ : ∃ x, L[i2] = x := ⟨_, rfl⟩
          rw [hx] at hcl hg
          obtain ⟨xp, xv, xs, xh, xd⟩ := x
          have HE2 : Hid (d0 = xd) := by show _ = _; rw [← HD0.out]; unfold ddue; rw [hg]; rfl
          obtain rfl : ix = (i2 : Int) := by rw [← HIX.out, hz]
          have hzi : (0 : Int) ≤ (i2 : Int) := by omega
          have hzn : (i2 : Int) < (n : Int) := by have := HN.out; omega
          have k5 : W9.cell? ⟨lb, lo + i2 * 6 + 5, none⟩ = some (.bool xd) := hcl 5 (by decide)
          have c47 : W9.cell? ⟨b4, 7, none⟩ = some (.slice (some ⟨lb, lo, none⟩) n cap) := (HB.out.get 0 rfl).cell 7
          clear hz hg hp2 hx hcl hlb
          go_wp2_with (refine bx_pB HB.out 3 5 rfl _ _ rfl rfl rfl rfl rfl ?_)
          intro WE hb2 hk
          clear hk
          go_wp2_with fail
          go_meet
          rw [HE2.out]
          exact hb2.out
      case rest =>
      replace HB : Hid (Bxs w [(DdK, b4, ddL c va n cap), (PxK, b5, [.int .u32 p1, .int .i64 p2]), (DdK, b8, ddL zc none 0 0), (MkK, b14, mkL ⟨(p1, p2), v, nw, h0, d0⟩)] wc) := hcut
      obtain ⟨WB, hwb⟩ : ∃ y, wc = y := ⟨_, rfl⟩
      rw [hwb] at HB ⊢
      clear hwb hcut
      have c41 : WB.cell? ⟨b4, 1, none⟩ = some (.int .i64 (c.limit : Int)) := (HB.out.get 0 rfl).cell 1
      obtain ⟨M, hM⟩ : ∃ y, fmk c L (p1, p2) what nw = y := ⟨_, rfl⟩
      have HM : Hid (fmk c L (p1, p2) what nw = M) := hM
      have HMX : Hid (M = ⟨(p1, p2), v, nw, h0 || decide (c.limit ≤ v), d0 || decide (c.limit ≤ v)⟩) := by show _ = _; rw [← hM]; unfold fmk hldP; rw [HVL.out, HH0.out, HD0.out]
      clear hM
      go_upto_if 126 with fail
      go_cut [126] from 127 to 154 (fun _ wx => Bxs w [(DdK, b4, ddL c va n cap), (PxK, b5, [.int .u32 p1, .int .i64 p2]), (DdK, b8, ddL zc none 0 0), (MkK, b14, mkL M)] wx)
      case first =>
        by_cases hlm : c.limit ≤ v
        · have hli : (c.limit : Int) ≤ (v : Int) := by omega
          have HE2 : Hid (M = ⟨(p1, p2), v, nw, true, true⟩) := by show _ = _; rw [HMX.out, decide_eq_true hlm, Bool.or_true, Bool.or_true]
          go_wp2_with (refine bx_pB HB.out 3 4 rfl _ _ rfl rfl rfl rfl rfl ?_)
          intro WE hb2 hk
          replace HB : Hid (Bxs w [(DdK, b4, ddL c va n cap), (PxK, b5, [.int .u32 p1, .int .i64 p2]), (DdK, b8, ddL zc none 0 0), (MkK, b14, mkL ⟨(p1, p2), v, nw, true, d0⟩)] WE) := hb2.out
          clear hb2 hk
          go_wp2_with (refine bx_pB HB.out 3 5 rfl _ _ rfl rfl rfl rfl rfl ?_)
          intro WF hb2 hk
          clear hk
          go_wp2_with fail
          go_meet
          rw [HE2.out]
          exact hb2.out
        · have hli : ¬ (c.limit : Int) ≤ (v : Int) := by omega
          have HE2 : Hid (M = ⟨(p1, p2), v, nw, h0, d0⟩) := by show _ = _; rw [HMX.out, decide_eq_false hlm, Bool.or_false, Bool.or_false]
          go_wp2_with fail
          go_meet
          rw [HE2.out]
          exact HB.out
      case rest =>
      replace HB : Hid (Bxs w [(DdK, b4, ddL c va n cap), (PxK, b5, [.int .u32 p1, .int .i64 p2]), (DdK, b8, ddL zc none 0 0), (MkK, b14, mkL M)] wc) := hcut
      obtain ⟨WC, hwb⟩ : ∃ y, wc = y := ⟨_, rfl⟩
      rw [hwb] at HB ⊢
      clear hwb hcut c41 HMX HVL HH0 HD0
      have c47 : WC.cell? ⟨b4, 7, none⟩ = some (.slice va n cap) := (HB.out.get 0 rfl).cell 7
      go_wp2_with fail
      go_loopw [132, 16] (fun iv lv wr => F2 w [(DdK, b4, ddL c va n cap), (PxK, b5, [.int .u32 p1, .int .i64 p2]), (DdK, b8, ddL zc none 0 0), (MkK, b14, mkL M)] L (p1, p2) n iv lv wr) (fun i _ _ => n - (intOf i).toNat)
      case atStart => exact ⟨⟨0, by omega, rfl, OB.nil _ _ _ _⟩, HB.out⟩
      case round =>
        obtain ⟨⟨k, hk, rfl, ho⟩, hbx⟩ := hrel
        clear c47 HB
        have HB : Hid (Bxs w [(DdK, b4, ddL c va n cap), (PxK, b5, [.int .u32 p1, .int .i64 p2]), (DdK, b8, ddL zc none 0 0), (MkK, b14, mkL M)] wr) := hbx
        obtain ⟨xs, hxs⟩ : ∃ y, (L.take k).filter (keep1 (p1, p2)) = y := ⟨_, rfl⟩
        have HXS : Hid ((L.take k).filter (keep1 (p1, p2)) = xs) := hxs
        have HXL : Hid (xs.length ≤ 1000000) := by
          have h1 := List.length_filter_le (keep1 (p1, p2)) (L.take k)
          rw [List.length_take, hxs] at h1
          show _ ≤ _
          omega
        rw [hxs] at ho
        obtain ⟨la, lc, rfl, -⟩ := ho.own.form
        have HO : Hid (OB EK w.heap.size (adr [(DdK, b4, ddL c va n cap), (PxK, b5, [.int .u32 p1, .int .i64 p2]), (DdK, b8, ddL zc none 0 0), (MkK, b14, mkL M)]) wr (.slice la xs.length lc) xs) := ho
        obtain ⟨nx, hnx⟩ : ∃ y, xs.length = y := ⟨_, rfl⟩
        rw [hnx] at HO
        rw [hnx]
        obtain ⟨WD, hwa⟩ : ∃ y, wr = y := ⟨_, rfl⟩
        rw [hwa] at HB HO ⊢
        clear hbx hwa hxs ho hnx
        by_cases hlt : k < n
        case pos =>
          have hil : k < L.length := by rw [HN.out]; exact hlt
          have hii : (k : Int) < (n : Int) := by omega
          have ii0 : (0 : Int) ≤ (k : Int) := by omega
          obtain ⟨lb, lo, rfl, hlb, hcl⟩ := (H.out.bel HB.out.bel).cells k hil
          obtain ⟨x, hx⟩ : ∃ x, L[k] = x := ⟨_, rfl⟩
          have HKN : Hid ((L.take (k + 1)).filter (keep1 (p1, p2)) = xs ++ (if keep1 (p1, p2) x = true then [x] else [])) := by
            show _ = _
            rw [keep_next hil, HXS.out, hx]
          rw [hx] at hcl
          have HCL : Hid (∀ j, j < MkK.k → WD.cell? ⟨lb, lo + k * 6 + j, none⟩ = (mkL x)[j]?) := fun j hj => hcl j hj
          have HDI := dix_iff HND.out (p := (p1, p2)) hil
          rw [HIX.out, hx] at HDI
          have c47 : WD.cell? ⟨b4, 7, none⟩ = some (.slice (some ⟨lb, lo, none⟩) n cap) := (HB.out.get 0 rfl).cell 7
          by_cases hxp : x.p = (p1, p2)
          case pos =>
            have hne : ((k : Int) != ix) = false := by have := HDI.2 hxp; simpa using this
            have HK2 : Hid ((L.take (k + 1)).filter (keep1 (p1, p2)) = xs) := by
              show _ = _
              rw [HKN.out, if_neg (by unfold keep1; simp [hxp]), List.append_nil]
            clear hxp HDI hx hcl hlb HKN
            go_wp2_with fail
            refine ⟨⟨⟨k + 1, by omega, by simp, by rw [HK2.out]; exact HO.out⟩, HB.out⟩, ?_⟩
            simp [intOf]
            omega
          case neg =>
            have hne : ((k : Int) != ix) = true := by have : ¬ (k : Int) = ix := fun e => hxp (HDI.1 e); simpa using this
            have HK2 : Hid ((L.take (k + 1)).filter (keep1 (p1, p2)) = xs ++ [x]) := by
              show _ = _
              rw [HKN.out, if_pos (by unfold keep1; simp [hxp])]
            have HA2 : Hid (Below WD.heap.size WD (WD.alloc (Obj.cells (mkL x).toArray 64))) := (Below.refl _ WD).alloc (Nat.le_refl _) _
            have HBA := HB.out.step HA2.out
            have HOA := HO.out.bel HA2.out
            have HBA' : Hid (Bxs w [(DdK, b4, ddL c (some ⟨lb, lo, none⟩) n cap), (PxK, b5, [.int .u32 p1, .int .i64 p2]), (DdK, b8, ddL zc none 0 0), (MkK, b14, mkL M)] (WD.alloc (Obj.cells (mkL x).toArray 64))) := HBA
            have HOA' : Hid (OB EK w.heap.size (adr [(DdK, b4, ddL c (some ⟨lb, lo, none⟩) n cap), (PxK, b5, [.int .u32 p1, .int .i64 p2]), (DdK, b8, ddL zc none 0 0), (MkK, b14, mkL M)]) (WD.alloc (Obj.cells (mkL x).toArray 64)) (.slice la nx lc) xs) := HOA
            clear hxp HDI hx hcl hlb HKN HBA HOA
            go_wp2_with (first | (refine list_sat MkK rfl _ rfl (b := lb) (k := lo + k * 6) (cs := mkL x) rfl HCL.out rfl ?_) | (refine list_mkbuild rfl _ rfl x rfl ?_) | (refine list_app1 EK rfl _ _ 30 rfl rfl w.heap.size (.slice la nx lc) xs x (by have := HXL.out; omega) (w := WD) (WD.alloc (Obj.cells (mkL x).toArray 64)) rfl HOA'.out.own rfl HBA'.out.bel.size rfl ?_))
            intro v7 w7 ho7 hg7 ha7
            have HB7 : Hid (Bxs w [(DdK, b4, ddL c (some ⟨lb, lo, none⟩) n cap), (PxK, b5, [.int .u32 p1, .int .i64 p2]), (DdK, b8, ddL zc none 0 0), (MkK, b14, mkL M)] w7) := HBA'.out.grown hg7.out HOA'.out.for
            have HO7 : Hid (OB EK w.heap.size (adr [(DdK, b4, ddL c (some ⟨lb, lo, none⟩) n cap), (PxK, b5, [.int .u32 p1, .int .i64 p2]), (DdK, b8, ddL zc none 0 0), (MkK, b14, mkL M)]) w7 v7 (xs ++ [x])) := HOA'.out.app ho7.out (by simpa using ha7.out) HBA'.out.adrs
            clear ho7 hg7 ha7 HA2 HBA' HOA' HO HB c47
            go_wp2_with fail
            refine ⟨⟨⟨k + 1, by omega, by simp, by rw [HK2.out]; exact HO7.out⟩, HB7.out⟩, ?_⟩
            simp [intOf]
            omega
        case neg =>
          have hii : ¬ (k : Int) < (n : Int) := by omega
          have HFX : Hid (xs ++ [M] = L') := by
            have h1 : L.take k = L := List.take_of_length_le (by have := HN.out; omega)
            have h2 := HXS.out
            rw [h1] at h2
            have h3 := HQ2.out.2
            rw [HM.out] at h3
            have h4 : M.p = (p1, p2) := by rw [← HM.out]; rfl
            show _ = _
            rw [← h3, ← h2]
            unfold dput keep1
            rw [h4]
          have HA2 : Hid (Below WD.heap.size WD (WD.alloc (Obj.cells (mkL M).toArray 64))) := (Below.refl _ WD).alloc (Nat.le_refl _) _
          have HBA : Hid (Bxs w [(DdK, b4, ddL c va n cap), (PxK, b5, [.int .u32 p1, .int .i64 p2]), (DdK, b8, ddL zc none 0 0), (MkK, b14, mkL M)] (WD.alloc (Obj.cells (mkL M).toArray 64))) := HB.out.step HA2.out
          have HOA : Hid (OB EK w.heap.size (adr [(DdK, b4, ddL c va n cap), (PxK, b5, [.int .u32 p1, .int .i64 p2]), (DdK, b8, ddL zc none 0 0), (MkK, b14, mkL M)]) (WD.alloc (Obj.cells (mkL M).toArray 64)) (.slice la nx lc) xs) := HO.out.bel HA2.out
          go_wp2_with (first | (refine bx_ld HB.out 3 rfl rfl _ rfl rfl rfl ?_) | (refine list_mkbuild rfl _ rfl M rfl ?_) | (refine list_app1 EK rfl _ _ 30 rfl rfl w.heap.size (.slice la nx lc) xs M (by have := HXL.out; omega) (w := WD) (WD.alloc (Obj.cells (mkL M).toArray 64)) rfl HOA.out.own rfl HBA.out.bel.size rfl ?_))
          intro v7 w7 ho7 hg7 ha7
          have HB7 : Hid (Bxs w [(DdK, b4, ddL c va n cap), (PxK, b5, [.int .u32 p1, .int .i64 p2]), (DdK, b8, ddL zc none 0 0), (MkK, b14, mkL M)] w7) := HBA.out.grown hg7.out HOA.out.for
          have HO7 : Hid (OB EK w.heap.size (adr [(DdK, b4, ddL c va n cap), (PxK, b5, [.int .u32 p1, .int .i64 p2]), (DdK, b8, ddL zc none 0 0), (MkK, b14, mkL M)]) w7 v7 (xs ++ [M])) := HOA.out.app ho7.out (by simpa using ha7.out) HBA.out.adrs
          clear ho7 hg7 ha7 HA2 HBA HOA HO HB
          obtain ⟨va7, vc7, hv7, -⟩ := HO7.out.own.form
          obtain ⟨n7, hn7⟩ : ∃ y, (xs ++ [M]).length = y := ⟨_, rfl⟩
          rw [hn7] at hv7
          subst hv7
          have HN7 : Hid ((xs ++ [M]).length = n7) := hn7
          clear hn7
          go_wp2_with (refine bx_pS EK (fun _ => rfl) HB7.out 0 7 rfl _ _ rfl rfl rfl rfl rfl ?_)
          intro w8 hb2 hk2
          have HB8 : Hid (Bxs w [(DdK, b4, ddL c va7 n7 vc7), (PxK, b5, [.int .u32 p1, .int .i64 p2]), (DdK, b8, ddL zc none 0 0), (MkK, b14, mkL M)] w8) := hb2.out
          have HO8 : Hid (OB EK w.heap.size (adr [(DdK, b4, ddL c va n cap), (PxK, b5, [.int .u32 p1, .int .i64 p2]), (DdK, b8, ddL zc none 0 0), (MkK, b14, mkL M)]) w8 (.slice va7 n7 vc7) (xs ++ [M])) := HO7.out.ko hk2.out (by simp [adr])
          clear hb2 hk2 HB7 HO7
          go_wp2_with (refine bx_pI HB8.out 0 6 rfl _ _ rfl rfl rfl rfl rfl ?_)
          intro w9 hb2 hk2
          have HB9 : Hid (Bxs w [(DdK, b4, ddL (clkD c nw) va7 n7 vc7), (PxK, b5, [.int .u32 p1, .int .i64 p2]), (DdK, b8, ddL zc none 0 0), (MkK, b14, mkL M)] w9) := hb2.out
          have HO9 : Hid (OB EK w.heap.size (adr [(DdK, b4, ddL c va n cap), (PxK, b5, [.int .u32 p1, .int .i64 p2]), (DdK, b8, ddL zc none 0 0), (MkK, b14, mkL M)]) w9 (.slice va7 n7 vc7) (xs ++ [M])) := HO8.out.ko hk2.out (by simp [adr])
          clear hb2 hk2 HB8 HO8
          go_wp2_with (first | (refine bx_ld HB9.out 0 rfl rfl _ rfl rfl rfl ?_) | (refine bx_st HB9.out 2 rfl rfl _ _ rfl rfl (ddL (clkD c nw) va7 n7 vc7) rfl rfl rfl rfl ?_))
          intro w10 hb2 hk2
          have HBX : Hid (Bxs w [(DdK, b4, ddL (clkD c nw) va7 n7 vc7), (PxK, b5, [.int .u32 p1, .int .i64 p2]), (DdK, b8, ddL (clkD c nw) va7 n7 vc7), (MkK, b14, mkL M)] w10) := hb2.out
          have HOX : Hid (OB EK w.heap.size (adr [(DdK, b4, ddL c va n cap), (PxK, b5, [.int .u32 p1, .int .i64 p2]), (DdK, b8, ddL zc none 0 0), (MkK, b14, mkL M)]) w10 (.slice va7 n7 vc7) (xs ++ [M])) := HO9.out.ko hk2.out (by simp [adr])
          clear hb2 hk2 HB9 HO9
          have HF : Hid (DfPost w va c' L' er (.returned (.tuple #[.agg (ddL (clkD c nw) va7 n7 vc7).toArray, .int .i64 0])) w10) := by
            have h1 := HQ2.out.1
            have h2 := HFX.out
            have h3 := HOX.out.own
            have h4 := h3.lst.1
            have h5 := HN7.out
            rw [h2] at h4 h5
            rw [← h1, ← HE.out]
            exact ⟨va7, n7, vc7, rfl, h4, h5, fun b o s e => .inr (own_ge h3 e), HBX.out.bel⟩
          go_wp2_with fail
          exact bodyPost_ret (dflap_res (HBX.out.get 2 rfl) rfl rfl) rfl HF.out
end Go.Proofs.Ytjfiahendnlcjaa.Da
