/- The network in memory: an edge is entered. -/
import Derived.Test.YthhdpfgepjmgkaaDjN
namespace Go.Proofs.Ythhdpfgepjmgkaa.Dj
open Go.ChangeShapes Go.WideShapes Go.ChangeAt Go.RowKit Go.Joins Go.Deep Go.Proofs.Ythhdpfgepjmgkaa.Ge
set_option linter.unusedVariables false
set_option linter.unusedSimpArgs false

/-- what stands at a key -/
def s0 (es : Ents Int Sl) (k : Int) : Sl := (mget es k).getD ⟨none, 0, 0⟩
theorem got_is (es : Ents Int Sl) (k : Int) : MIS.got es k = slV (s0 es k) := by
  unfold Mk.got s0
  cases mget es k <;> rfl
/-- a map of lists of edges at b: L k stands at k; F: all its blocks -/
structure Om (b N : Nat) (L : Int → List Ed) (F : Nat → Prop) (es : Ents Int Sl) (c : Nat) (W : World) : Prop where
  m : MB MIS b es c W
  ok : Mok es c
  own : ∀ k, OwnL EE N W (slV (s0 es k)) (L k)
  fb : F b
  fo : ∀ k g, (slV (s0 es k)).ownBlock = some g → F g ∧ g ≠ b
  ap : ∀ k1 k2 g, k1 ≠ k2 → (slV (s0 es k1)).ownBlock = some g → (slV (s0 es k2)).ownBlock ≠ some g
  lt : ∀ g, F g → g < W.heap.size
theorem Om.blk {b N c : Nat} {L : Int → List Ed} {F : Nat → Prop} {es : Ents Int Sl} {W W' : World} (h : Om b N L F es c W) (hb : ∀ g, F g → W'.heap[g]? = W.heap[g]?) (hs : W.heap.size ≤ W'.heap.size) : Om b N L F es c W' := ⟨h.m.blk (hb b h.fb), h.ok, fun k => (h.own k).blk (fun g e => hb g (h.fo k g e).1), h.fb, h.fo, h.ap, fun g hg => Nat.lt_of_lt_of_le (h.lt g hg) hs⟩
theorem Om.bel {b N c : Nat} {L : Int → List Ed} {F : Nat → Prop} {es : Ents Int Sl} {W W' : World} (h : Om b N L F es c W) (hb : Below W.heap.size W W') : Om b N L F es c W' := h.blk (fun g hg => hb.block g (h.lt g hg)) hb.size
def putL (L : Int → List Ed) (k : Int) (e : Ed) : Int → List Ed := fun m => if m = k then L k ++ [e] else L m
theorem s0_put (es : Ents Int Sl) (c : Nat) (k : Int) (s : Sl) (m : Int) : s0 (mput es c k s) m = if m = k then s else s0 es m := by
  unfold s0
  rw [mput_get]
  split <;> rfl
theorem Om.app {b N c : Nat} {L : Int → List Ed} {F : Nat → Prop} {es : Ents Int Sl} {W W2 : World} (h : Om b N L F es c W) (k : Int) (e : Ed) (s : Sl) (hm : MB MIS b (mput es c k s) (mclk es c k) W2) (ho : OwnL EE N W2 (slV s) (L k ++ [e])) (hs : ∀ g, (slV s).ownBlock = some g → (slV (s0 es k)).ownBlock = some g ∨ W.heap.size ≤ g) (hb : ∀ g, F g → g ≠ b → (slV (s0 es k)).ownBlock ≠ some g → W2.heap[g]? = W.heap[g]?) (hz : W.heap.size ≤ W2.heap.size) : Om b N (putL L k e) (fun g => F g ∨ (slV s).ownBlock = some g) (mput es c k s) (mclk es c k) W2 := by
  have hnew : ∀ g, (slV s).ownBlock = some g → g ≠ b := fun g e => by
    rcases hs g e with h1 | h1
    · exact (h.fo k g h1).2
    · have := h.lt b h.fb; omega
  refine ⟨hm, mput_ok h.ok k s, fun m => ?_, .inl h.fb, fun m g e => ?_, fun k1 k2 g hk e1 e2 => ?_, fun g hg => ?_⟩
  · rw [s0_put]
    unfold putL
    by_cases e : m = k
    · rw [if_pos e, if_pos e]
      exact ho
    · rw [if_neg e, if_neg e]
      exact (h.own m).blk (fun g eg => hb g (h.fo m g eg).1 (h.fo m g eg).2 (h.ap m k g e eg))
  · rw [s0_put] at e
    by_cases em : m = k
    · rw [if_pos em] at e
      exact ⟨.inr e, hnew g e⟩
    · rw [if_neg em] at e
      exact ⟨.inl (h.fo m g e).1, (h.fo m g e).2⟩
  · rw [s0_put] at e1 e2
    by_cases g1 : k1 = k
    · rw [if_pos g1] at e1
      rw [if_neg (fun c => hk (g1.trans c.symm))] at e2
      rcases hs g e1 with h1 | h1
      · exact h.ap k2 k g (fun c => hk (g1.trans c.symm)) e2 h1
      · have := h.lt g (h.fo k2 g e2).1; omega
    · rw [if_neg g1] at e1
      by_cases g2 : k2 = k
      · rw [if_pos g2] at e2
        rcases hs g e2 with h1 | h1
        · exact h.ap k1 k g g1 e1 h1
        · have := h.lt g (h.fo k1 g e1).1; omega
      · rw [if_neg g2] at e2
        exact h.ap k1 k2 g hk e1 e2
  · rcases hg with h1 | h1
    · exact Nat.lt_of_lt_of_le (h.lt g h1) hz
    · exact (ho.row.lt g h1).2
theorem look_runv {κ β : Type} [DecidableEq κ] {o : Oper} {ρ : Operand → Value} {W : World} (M : Mk κ β) (x y : Operand) (ho : o.op = .lookup M.t x y false) {b c : Nat} {es : Ents κ β} {k : κ} {v : Value} (hx : ρ x = .map (some b)) (hy : ρ y = M.ek k) (h : MB M b es c W) (hv : M.got es k = v) : (execOp ρ o).run Try.prog W = .ok (.value v) W := by
  rw [← hv]
  exact look_run M x y ho hx hy h
theorem ebuild_run {o : Oper} (x : Operand) (ho : o.op = .buildSlice 22 1 #[(0, x)]) {ρ : Operand → Value} {m : Ed} {W : World} (hx : ρ x = .agg (edL m).toArray) : (execOp ρ o).run Try.prog W = .ok (.value (.slice (some ⟨W.heap.size, 0, none⟩) 1 1)) (W.alloc (Obj.cells (edL m).toArray 26)) := by
  unfold execOp
  rw [ho]
  simp [go_sem, hx, edL]
theorem ebuild_step {o : Oper} {a : Act} {W : World} {K : Act → World → Prop} {Q : Exit → Act → World → Prop} {c : Bool} {E : Prop} (x : Operand) (ho : o.op = .buildSlice 22 1 #[(0, x)]) {m : Ed} (hx : a.eval x = .agg (edL m).toArray) (hc : c = true)
    (k : ∀ b W', Hid (W.heap.size = b) → Hid (Lst EE W' (some ⟨b, 0, none⟩) [m]) → Hid (Below W.heap.size W W') → K (a.put o.dst (.slice (some ⟨b, 0, none⟩) 1 1)) W') : if c = true then Oper.wp Try.prog o a W K Q else E :=
  step_run hc (ebuild_run x ho hx) (k _ _ rfl ((own_made EE (W := W) [m] 1 rfl (by decide) rfl).1.lst.1) ((Below.refl _ W).alloc (Nat.le_refl _) _))
/-- where a network's maps lie -/
structure Nb where
  e : Nat
  m : Nat
  o : Nat
  i : Nat
def nwL (b : Nb) : List Value := [.map (some b.e), .map (some b.m), .map (some b.o), .map (some b.i)]
/-- how many of these lead from the one to the other -/
def cnt (vs : List Ed) (p : Pt) : Nat := (vs.filter (fun e => decide (e.f = p.1 ∧ e.t = p.2))).length
/-- the three that list edges -/
structure Nw (N : Nat) (b : Nb) (vs : List Ed) (Fo Fi : Nat → Prop) (em : Ents Pt Int) (cm : Nat) (eo : Ents Int Sl) (co : Nat) (ei : Ents Int Sl) (ci : Nat) (W : World) : Prop where
  mm : MB MPI b.m em cm W
  mok : Mok em cm
  get : ∀ p, (mget em p).getD 0 = (cnt vs p : Nat)
  out : Om b.o N (fun k => vs.filter (fun e => decide (e.f = k))) Fo eo co W
  inn : Om b.i N (fun k => vs.filter (fun e => decide (e.t = k))) Fi ei ci W
  sep : ∀ g, Fo g → ¬ Fi g
  nm : ¬ Fo b.m ∧ ¬ Fi b.m
theorem got_pi (em : Ents Pt Int) (p : Pt) : MPI.got em p = .int .i64 ((mget em p).getD 0) := by
  unfold Mk.got
  cases mget em p <;> rfl
theorem wr64 (n : Int) (h1 : -9223372036854775808 ≤ n) (h2 : n < 9223372036854775808) : IntKind.i64.wrap n = n := by
  simp [IntKind.wrap, IntKind.bits, IntKind.signed]
  omega
def EnPost (w : World) (N : Nat) (b : Nb) (vs : List Ed) (e : Ed) (Fo Fi : Nat → Prop) (en : Ending) (w' : World) : Prop := en = .returned (.tuple #[]) ∧ ∃ Fo' Fi' em cm eo co ei ci, Nw N b (vs ++ [e]) Fo' Fi' em cm eo co ei ci w' ∧ Kf (fun g => g = b.m ∨ Fo g ∨ Fi g) w w' ∧ (∀ g, Fo' g → Fo g ∨ w.heap.size ≤ g) ∧ (∀ g, Fi' g → Fi g ∨ w.heap.size ≤ g)
theorem put_flt (vs : List Ed) (e : Ed) (q : Ed → Int) : putL (fun k => vs.filter (fun e => decide (q e = k))) (q e) e = fun k => (vs ++ [e]).filter (fun e => decide (q e = k)) := funext fun m => by
  unfold putL
  rw [List.filter_append]
  by_cases h : m = q e
  · subst h
    rw [if_pos rfl]
    congr 1
    simp [List.filter]
  · rw [if_neg h]
    have : List.filter (fun e => decide (q e = m)) [e] = [] := by simp [List.filter, Ne.symm h]
    rw [this, List.append_nil]
set_option maxRecDepth 100000 in
set_option maxHeartbeats 16000000 in
theorem enter_any (N : Nat) (b : Nb) (vs : List Ed) (e : Ed) (Fo Fi : Nat → Prop) (em : Ents Pt Int) (cm : Nat) (eo : Ents Int Sl) (co : Nat) (ei : Ents Int Sl) (ci : Nat) (w : World) (hN : N ≤ w.heap.size) (hl : vs.length < 1000000000) (h : Nw N b vs Fo Fi em cm eo co ei ci w) : Calls Try.prog 35 #[.agg (nwL b).toArray, edV e] w (EnPost w N b vs e Fo Fi) := by
  have HW : Hid (Nw N b vs Fo Fi em cm eo co ei ci w) := h
  have HL : Hid (vs.length < 1000000000 ∧ N ≤ w.heap.size) := ⟨hl, hN⟩
  clear h hl hN
  unfold edV
  go_enter Try.func35, Try.ntmps35
  go_upto_region 1 with first | (refine list_boxl NwK rfl _ rfl (cs := nwL b) rfl ?_; intro b2 w1 hb2 hs2 hbl2) | (refine list_boxl EdK rfl _ rfl (cs := edL e) rfl ?_; intro b3 w2 hb3 hs3 hbl3)
  have HB2 : Hid (Below w.heap.size w w2) := hbl2.out.trans (hbl3.out.mono hbl2.out.size)
  have HX0 : Hid (SB NwK b2 (nwL b) w2 ∧ SB EdK b3 (edL e) w2) := ⟨hs2.out.blk (hbl3.out.block b2 hs2.out.lt), hs3.out⟩
  have HLT : Hid (w.heap.size ≤ b2 ∧ w.heap.size ≤ b3) := ⟨by rw [hb2.out]; exact Nat.le_refl _, by rw [← hb3.out]; exact hbl2.out.size⟩
  clear hb2 hs2 hbl2 hb3 hs3 hbl3
  obtain ⟨wd, hwd⟩ : ∃ y, w2.drew = y := ⟨_, rfl⟩
  have HWD : Hid (w2.drew = wd) := hwd
  have HBD : Hid (Below w.heap.size w wd) := by rw [← hwd]; exact HB2.out.trans ((drew_bel w2).mono HB2.out.size)
  have HXD : Hid (SB NwK b2 (nwL b) wd ∧ SB EdK b3 (edL e) wd) := by rw [← hwd]; exact HX0.out
  have HM : Hid (MB MPI b.m em cm wd) := HW.out.mm.blk (HBD.out.block b.m HW.out.mm.lt)
  have HNE : Hid (b2 ≠ b.m ∧ b3 ≠ b.m) := ⟨by have := HW.out.mm.lt; have := HLT.out; omega, by have := HW.out.mm.lt; have := HLT.out; omega⟩
  obtain ⟨z, hz⟩ : ∃ z : Nat, (mget em (e.f, e.t)).getD 0 = (z : Int) := ⟨_, HW.out.get _⟩
  have hzb : (z : Int) < 1000000000 := by
    have h1 := HW.out.get (e.f, e.t)
    rw [hz] at h1
    have h2 : cnt vs (e.f, e.t) ≤ vs.length := List.length_filter_le _ _
    have h3 := HL.out
    omega
  have HZ : Hid ((mget em (e.f, e.t)).getD 0 = (z : Int)) := hz
  have HWR : Hid (IntKind.i64.wrap ((z : Int) + 1) = (z : Int) + 1) := wr64 _ (by omega) (by omega)
  clear hwd HB2 HX0 hz
  refine wp_region_held_drew (S := fun W => SB NwK b2 (nwL b) W ∧ SB EdK b3 (edL e) W) (by kernel_rfl) (by rw [HWD.out]; exact HXD.out) (fun hHeld => ?_)
  rw [HWD.out] at hHeld ⊢
  refine wpAnyH_take (i := 0) (v := .pointer (some ⟨b2, 1, none⟩)) rfl (by kernel_rfl) (by kernel_rfl) (by kernel_rfl) (fun _ _ _ h => h) (Or.inl ⟨by rfl, ?_⟩) (by assumption) ?_
  case refine_1 => intro W hSw; go_simp; try rfl
  try simp only [Act.put, List.getElem_toArray, List.getElem_cons_zero, List.getElem_cons_succ, List.setIfInBounds_toArray, List.set_cons_zero, List.set_cons_succ]
  refine wpAnyH_take (i := 1) (v := .map (some b.m)) rfl (by kernel_rfl) (by kernel_rfl) (by kernel_rfl) (fun _ _ _ h => h) (Or.inl ⟨by rfl, ?_⟩) (by assumption) ?_
  case refine_1 => intro W hSw; have k1 : W.cell? ⟨b2, 1, none⟩ = some (.map (some b.m)) := hSw.1.cell 1; go_simp; try rfl
  try simp only [Act.put, List.getElem_toArray, List.getElem_cons_zero, List.getElem_cons_succ, List.setIfInBounds_toArray, List.set_cons_zero, List.set_cons_succ]
  refine wpAnyH_take (i := 2) (v := .pointer (some ⟨b3, 0, none⟩)) rfl (by kernel_rfl) (by kernel_rfl) (by kernel_rfl) (fun _ _ _ h => h) (Or.inl ⟨by rfl, ?_⟩) (by assumption) ?_
  case refine_1 => intro W hSw; go_simp; try rfl
  try simp only [Act.put, List.getElem_toArray, List.getElem_cons_zero, List.getElem_cons_succ, List.setIfInBounds_toArray, List.set_cons_zero, List.set_cons_succ]
  refine wpAnyH_take (i := 3) (v := .int .i64 e.f) rfl (by kernel_rfl) (by kernel_rfl) (by kernel_rfl) (fun _ _ _ h => h) (Or.inl ⟨by rfl, ?_⟩) (by assumption) ?_
  case refine_1 => intro W hSw; have k1 : W.cell? ⟨b3, 0, none⟩ = some (.int .i64 e.f) := hSw.2.cell 0; go_simp; try rfl
  try simp only [Act.put, List.getElem_toArray, List.getElem_cons_zero, List.getElem_cons_succ, List.setIfInBounds_toArray, List.set_cons_zero, List.set_cons_succ]
  refine wpAnyH_take (i := 4) (v := .pointer (some ⟨b3, 1, none⟩)) rfl (by kernel_rfl) (by kernel_rfl) (by kernel_rfl) (fun _ _ _ h => h) (Or.inl ⟨by rfl, ?_⟩) (by assumption) ?_
  case refine_1 => intro W hSw; go_simp; try rfl
  try simp only [Act.put, List.getElem_toArray, List.getElem_cons_zero, List.getElem_cons_succ, List.setIfInBounds_toArray, List.set_cons_zero, List.set_cons_succ]
  refine wpAnyH_take (i := 5) (v := .int .i64 e.t) rfl (by kernel_rfl) (by kernel_rfl) (by kernel_rfl) (fun _ _ _ h => h) (Or.inl ⟨by rfl, ?_⟩) (by assumption) ?_
  case refine_1 => intro W hSw; have k1 : W.cell? ⟨b3, 1, none⟩ = some (.int .i64 e.t) := hSw.2.cell 1; go_simp; try rfl
  try simp only [Act.put, List.getElem_toArray, List.getElem_cons_zero, List.getElem_cons_succ, List.setIfInBounds_toArray, List.set_cons_zero, List.set_cons_succ]
  refine wpAnyH_take (i := 6) (v := ptV (e.f, e.t)) rfl (by kernel_rfl) (by kernel_rfl) (by kernel_rfl) (fun _ _ _ h => h) (Or.inl ⟨by rfl, ?_⟩) (by assumption) ?_
  case refine_1 => intro W hSw; go_simp; try rfl
  try simp only [Act.put, List.getElem_toArray, List.getElem_cons_zero, List.getElem_cons_succ, List.setIfInBounds_toArray, List.set_cons_zero, List.set_cons_succ]
  refine wpAnyH_ready (rs := [7, 9]) (by kernel_rfl) (by simp) ?_
  refine AllReadyH.cons rfl (fun K hK => ?_) (AllReadyH.cons rfl (fun K hK => ?_) AllReadyH.nil)
  case' _ =>
    refine step_run rfl (look_runv MPI (.tmp 5) (.tmp 10) rfl (k := (e.f, e.t)) (v := .int .i64 (z : Int)) rfl rfl HM.out (by rw [got_pi, HZ.out])) ?_
    refine hK.out _ _ hHeld (fun hHeld => ?_)
    clear hK K
    try simp only [Act.put, List.getElem_toArray, List.getElem_cons_zero, List.getElem_cons_succ, List.setIfInBounds_toArray, List.set_cons_zero, List.set_cons_succ]
    refine wpAnyH_take (i := 8) (v := .int .i64 ((z : Int) + 1)) rfl (by kernel_rfl) (by kernel_rfl) (by kernel_rfl) (fun _ _ _ h => h) (Or.inl ⟨by rfl, ?_⟩) (by assumption) ?_
    case refine_1 => intro W hSw; go_simp; exact HWR.out
    try simp only [Act.put, List.getElem_toArray, List.getElem_cons_zero, List.getElem_cons_succ, List.setIfInBounds_toArray, List.set_cons_zero, List.set_cons_succ]
    refine wpAnyH_ready (rs := [9]) (by kernel_rfl) (by simp) ?_
    refine AllReadyH.cons rfl (fun K hK => ?_) AllReadyH.nil
    refine step_run rfl (ment_run MPI (0 : Int) rfl (.tmp 5) (.tmp 10) rfl (k := (e.f, e.t)) rfl rfl HM.out) ?_
    obtain ⟨hm4, hk4⟩ := HM.out.set (es' := mput em cm (e.f, e.t) ((mget em (e.f, e.t)).getD 0)) (c' := mclk em cm (e.f, e.t))
    obtain ⟨w4, hw4⟩ : ∃ y, ChangeMaps.setBlock wd b.m (.map ((mput em cm (e.f, e.t) ((mget em (e.f, e.t)).getD 0)).map MPI.ent).toArray (mclk em cm (e.f, e.t))) = y := ⟨_, rfl⟩
    rw [hw4] at hm4 hk4 ⊢
    have HM4 : Hid (MB MPI b.m (mput em cm (e.f, e.t) ((mget em (e.f, e.t)).getD 0)) (mclk em cm (e.f, e.t)) w4) := hm4
    have HK4 : Hid (Ko wd b.m w4) := hk4
    refine hK.out _ _ ⟨hHeld.1.blk (hk4.block b2 HNE.out.1), hHeld.2.blk (hk4.block b3 HNE.out.2)⟩ (fun hHeld => ?_)
    obtain ⟨st, hst⟩ : ∃ y, mst (e.f, e.t) em cm = y := ⟨_, rfl⟩
    have HST : Hid (mst (e.f, e.t) em cm = st) := hst
    rw [hst, got_pi, HZ.out]
    clear hK K hm4 hk4 hw4 hst
    try simp only [Act.put, List.getElem_toArray, List.getElem_cons_zero, List.getElem_cons_succ, List.setIfInBounds_toArray, List.set_cons_zero, List.set_cons_succ]
    refine wpAnyH_take (i := 10) (v := .int .i64 (st : Int)) rfl (by kernel_rfl) (by kernel_rfl) (by kernel_rfl) (fun _ _ _ h => h) (Or.inl ⟨by rfl, ?_⟩) (by assumption) ?_
    case refine_1 => intro W hSw; go_simp; try rfl
    try simp only [Act.put, List.getElem_toArray, List.getElem_cons_zero, List.getElem_cons_succ, List.setIfInBounds_toArray, List.set_cons_zero, List.set_cons_succ]
    refine wpAnyH_ready (rs := [11]) (by kernel_rfl) (by simp) ?_
    refine AllReadyH.cons rfl (fun K hK => ?_) AllReadyH.nil
    obtain ⟨i9, hi9⟩ := mfind_put (k := (e.f, e.t)) (es := em) (c := cm) ((mget em (e.f, e.t)).getD 0)
    refine step_runs rfl (estore_run MPI (.tmp 5) (.tmp 14) (.tmp 12) rfl (k := (e.f, e.t)) (u := (z : Int) + 1) hi9 (by rw [mst_put, HST.out]) (mput_ok HW.out.mok _ _) rfl rfl rfl HM4.out) ?_
    obtain ⟨hm5, hk5⟩ := HM4.out.set (es' := mput (mput em cm (e.f, e.t) ((mget em (e.f, e.t)).getD 0)) (mclk em cm (e.f, e.t)) (e.f, e.t) ((z : Int) + 1)) (c' := mclk em cm (e.f, e.t))
    obtain ⟨w5, hw5⟩ : ∃ y, ChangeMaps.setBlock w4 b.m (.map ((mput (mput em cm (e.f, e.t) ((mget em (e.f, e.t)).getD 0)) (mclk em cm (e.f, e.t)) (e.f, e.t) ((z : Int) + 1)).map MPI.ent).toArray (mclk em cm (e.f, e.t))) = y := ⟨_, rfl⟩
    rw [hw5] at hm5 hk5 ⊢
    have HK5 : Hid (Ko wd b.m w5) := HK4.out.trans hk5
    refine hK.out _ _ ⟨hHeld.1.blk (hk5.block b2 HNE.out.1), hHeld.2.blk (hk5.block b3 HNE.out.2)⟩ (fun hHeld => ?_)
    have HX5 : Hid (SB NwK b2 (nwL b) w5 ∧ SB EdK b3 (edL e) w5) := hHeld
    clear hK K hw5 hi9
    refine wpAnyH_done (by kernel_rfl) ?_ _
    have HM5 : Hid (∃ em' cm', MB MPI b.m em' cm' w5 ∧ Mok em' cm' ∧ ∀ p, (mget em' p).getD 0 = (cnt (vs ++ [e]) p : Nat)) := by
      refine ⟨_, _, hm5, ?_, fun p => ?_⟩
      · have h5 := mput_ok (mput_ok HW.out.mok (e.f, e.t) ((mget em (e.f, e.t)).getD 0)) (e.f, e.t) ((z : Int) + 1)
        have h6 : mclk (mput em cm (e.f, e.t) ((mget em (e.f, e.t)).getD 0)) (mclk em cm (e.f, e.t)) (e.f, e.t) = mclk em cm (e.f, e.t) := by
          obtain ⟨i, hi⟩ := mfind_put (k := (e.f, e.t)) (es := em) (c := cm) ((mget em (e.f, e.t)).getD 0)
          conv => lhs; unfold mclk
          rw [hi]
          rfl
        rw [h6] at h5
        exact h5
      · rw [mput_get, mput_get]
        have h7 : cnt (vs ++ [e]) p = cnt vs p + if p = (e.f, e.t) then 1 else 0 := by
          unfold cnt
          rw [List.filter_append, List.length_append]
          congr 1
          by_cases hp : p = (e.f, e.t)
          · subst hp
            rw [if_pos rfl]
            simp [List.filter]
          · rw [if_neg hp]
            have : ¬ (e.f = p.1 ∧ e.t = p.2) := fun c => hp (Prod.ext c.1.symm c.2.symm)
            simp [List.filter, this]
        rw [h7]
        by_cases hp : p = (e.f, e.t)
        · rw [if_pos hp, if_pos hp]
          have h8 := HW.out.get p
          rw [hp, HZ.out] at h8
          rw [hp]
          simp
          omega
        · rw [if_neg hp, if_neg hp, if_neg hp, Nat.add_zero]
          exact HW.out.get p
    clear hm5 hk5 hHeld HM4 HK4 HST
  rotate_left
  case' _ =>
    refine step_run rfl (ment_run MPI (0 : Int) rfl (.tmp 5) (.tmp 10) rfl (k := (e.f, e.t)) rfl rfl HM.out) ?_
    obtain ⟨hm4, hk4⟩ := HM.out.set (es' := mput em cm (e.f, e.t) ((mget em (e.f, e.t)).getD 0)) (c' := mclk em cm (e.f, e.t))
    obtain ⟨w4, hw4⟩ : ∃ y, ChangeMaps.setBlock wd b.m (.map ((mput em cm (e.f, e.t) ((mget em (e.f, e.t)).getD 0)).map MPI.ent).toArray (mclk em cm (e.f, e.t))) = y := ⟨_, rfl⟩
    rw [hw4] at hm4 hk4 ⊢
    have HM4 : Hid (MB MPI b.m (mput em cm (e.f, e.t) ((mget em (e.f, e.t)).getD 0)) (mclk em cm (e.f, e.t)) w4) := hm4
    have HK4 : Hid (Ko wd b.m w4) := hk4
    refine hK.out _ _ ⟨hHeld.1.blk (hk4.block b2 HNE.out.1), hHeld.2.blk (hk4.block b3 HNE.out.2)⟩ (fun hHeld => ?_)
    obtain ⟨st, hst⟩ : ∃ y, mst (e.f, e.t) em cm = y := ⟨_, rfl⟩
    have HST : Hid (mst (e.f, e.t) em cm = st) := hst
    rw [hst, got_pi, HZ.out]
    clear hK K hm4 hk4 hw4 hst
    try simp only [Act.put, List.getElem_toArray, List.getElem_cons_zero, List.getElem_cons_succ, List.setIfInBounds_toArray, List.set_cons_zero, List.set_cons_succ]
    refine wpAnyH_take (i := 10) (v := .int .i64 (st : Int)) rfl (by kernel_rfl) (by kernel_rfl) (by kernel_rfl) (fun _ _ _ h => h) (Or.inl ⟨by rfl, ?_⟩) (by assumption) ?_
    case refine_1 => intro W hSw; go_simp; try rfl
    try simp only [Act.put, List.getElem_toArray, List.getElem_cons_zero, List.getElem_cons_succ, List.setIfInBounds_toArray, List.set_cons_zero, List.set_cons_succ]
    refine wpAnyH_ready (rs := [7]) (by kernel_rfl) (by simp) ?_
    refine AllReadyH.cons rfl (fun K hK => ?_) AllReadyH.nil
    refine step_run rfl (look_runv MPI (.tmp 5) (.tmp 10) rfl (k := (e.f, e.t)) (v := .int .i64 (z : Int)) rfl rfl HM4.out (by rw [got_pi, (show (mget (mput em cm (e.f, e.t) ((mget em (e.f, e.t)).getD 0)) (e.f, e.t)).getD 0 = (z : Int) from by rw [mput_get, if_pos rfl]; exact HZ.out)])) ?_
    refine hK.out _ _ hHeld (fun hHeld => ?_)
    clear hK K
    try simp only [Act.put, List.getElem_toArray, List.getElem_cons_zero, List.getElem_cons_succ, List.setIfInBounds_toArray, List.set_cons_zero, List.set_cons_succ]
    refine wpAnyH_take (i := 8) (v := .int .i64 ((z : Int) + 1)) rfl (by kernel_rfl) (by kernel_rfl) (by kernel_rfl) (fun _ _ _ h => h) (Or.inl ⟨by rfl, ?_⟩) (by assumption) ?_
    case refine_1 => intro W hSw; go_simp; exact HWR.out
    try simp only [Act.put, List.getElem_toArray, List.getElem_cons_zero, List.getElem_cons_succ, List.setIfInBounds_toArray, List.set_cons_zero, List.set_cons_succ]
    refine wpAnyH_ready (rs := [11]) (by kernel_rfl) (by simp) ?_
    refine AllReadyH.cons rfl (fun K hK => ?_) AllReadyH.nil
    obtain ⟨i9, hi9⟩ := mfind_put (k := (e.f, e.t)) (es := em) (c := cm) ((mget em (e.f, e.t)).getD 0)
    refine step_runs rfl (estore_run MPI (.tmp 5) (.tmp 14) (.tmp 12) rfl (k := (e.f, e.t)) (u := (z : Int) + 1) hi9 (by rw [mst_put, HST.out]) (mput_ok HW.out.mok _ _) rfl rfl rfl HM4.out) ?_
    obtain ⟨hm5, hk5⟩ := HM4.out.set (es' := mput (mput em cm (e.f, e.t) ((mget em (e.f, e.t)).getD 0)) (mclk em cm (e.f, e.t)) (e.f, e.t) ((z : Int) + 1)) (c' := mclk em cm (e.f, e.t))
    obtain ⟨w5, hw5⟩ : ∃ y, ChangeMaps.setBlock w4 b.m (.map ((mput (mput em cm (e.f, e.t) ((mget em (e.f, e.t)).getD 0)) (mclk em cm (e.f, e.t)) (e.f, e.t) ((z : Int) + 1)).map MPI.ent).toArray (mclk em cm (e.f, e.t))) = y := ⟨_, rfl⟩
    rw [hw5] at hm5 hk5 ⊢
    have HK5 : Hid (Ko wd b.m w5) := HK4.out.trans hk5
    refine hK.out _ _ ⟨hHeld.1.blk (hk5.block b2 HNE.out.1), hHeld.2.blk (hk5.block b3 HNE.out.2)⟩ (fun hHeld => ?_)
    have HX5 : Hid (SB NwK b2 (nwL b) w5 ∧ SB EdK b3 (edL e) w5) := hHeld
    clear hK K hw5 hi9
    refine wpAnyH_done (by kernel_rfl) ?_ _
    have HM5 : Hid (∃ em' cm', MB MPI b.m em' cm' w5 ∧ Mok em' cm' ∧ ∀ p, (mget em' p).getD 0 = (cnt (vs ++ [e]) p : Nat)) := by
      refine ⟨_, _, hm5, ?_, fun p => ?_⟩
      · have h5 := mput_ok (mput_ok HW.out.mok (e.f, e.t) ((mget em (e.f, e.t)).getD 0)) (e.f, e.t) ((z : Int) + 1)
        have h6 : mclk (mput em cm (e.f, e.t) ((mget em (e.f, e.t)).getD 0)) (mclk em cm (e.f, e.t)) (e.f, e.t) = mclk em cm (e.f, e.t) := by
          obtain ⟨i, hi⟩ := mfind_put (k := (e.f, e.t)) (es := em) (c := cm) ((mget em (e.f, e.t)).getD 0)
          conv => lhs; unfold mclk
          rw [hi]
          rfl
        rw [h6] at h5
        exact h5
      · rw [mput_get, mput_get]
        have h7 : cnt (vs ++ [e]) p = cnt vs p + if p = (e.f, e.t) then 1 else 0 := by
          unfold cnt
          rw [List.filter_append, List.length_append]
          congr 1
          by_cases hp : p = (e.f, e.t)
          · subst hp
            rw [if_pos rfl]
            simp [List.filter]
          · rw [if_neg hp]
            have : ¬ (e.f = p.1 ∧ e.t = p.2) := fun c => hp (Prod.ext c.1.symm c.2.symm)
            simp [List.filter, this]
        rw [h7]
        by_cases hp : p = (e.f, e.t)
        · rw [if_pos hp, if_pos hp]
          have h8 := HW.out.get p
          rw [hp, HZ.out] at h8
          rw [hp]
          simp
          omega
        · rw [if_neg hp, if_neg hp, if_neg hp, Nat.add_zero]
          exact HW.out.get p
    clear hm5 hk5 hHeld HM4 HK4 HST
  all_goals
    have HKw5 : Hid (Kf (fun g => g = b.m ∨ Fo g ∨ Fi g) w w5) := (Kf.of_bel HBD.out).trans (Kf.of_ko HK5.out (F := fun g => g = b.m ∨ Fo g ∨ Fi g) (fun _ => .inl rfl)) (fun _ _ e => e)
    have HXw5 : Hid (SB NwK b2 (nwL b) w5 ∧ SB EdK b3 (edL e) w5) := HX5.out
    have HOMw5 : Hid (Om b.o N (fun k => vs.filter (fun y => decide (y.f = k))) Fo eo co w5) := (HW.out.out.bel HBD.out).blk (fun g hg => HK5.out.block g (fun c => HW.out.nm.1 (by rw [← c]; exact hg))) (Nat.le_of_eq HK5.out.size.symm)
    have HIMw5 : Hid (Om b.i N (fun k => vs.filter (fun y => decide (y.t = k))) Fi ei ci w5) := (HW.out.inn.bel HBD.out).blk (fun g hg => HK5.out.block g (fun c => HW.out.nm.2 (by rw [← c]; exact hg))) (Nat.le_of_eq HK5.out.size.symm)
    have HNX2 : Hid (∀ g, Fo g → ¬ (g = b2 ∨ g = b3)) := fun g hg c => by
      have h1 := HW.out.out.lt g hg
      have h2 := HLT.out
      omega
    have HNX3 : Hid (∀ g, Fi g → ¬ (g = b2 ∨ g = b3)) := fun g hg c => by
      have h1 := HW.out.inn.lt g hg
      have h2 := HLT.out
      omega
    clear HK5 HX5 HM HXD HBD hzb HZ HWR HNE HWD
    go_wp2_with fail
    have hle2 : (vs.filter (fun y => decide (y.f = e.f))).length ≤ vs.length := List.length_filter_le _ _
    have HLE2 : Hid ((vs.filter (fun y => decide (y.f = e.f))).length < 1000000000) := by have := HL.out; show _ < _; omega
    obtain ⟨wd2, hwd2⟩ : ∃ y, w5.drew = y := ⟨_, rfl⟩
    have HXD2 : Hid (SB NwK b2 (nwL b) wd2 ∧ SB EdK b3 (edL e) wd2) := by rw [← hwd2]; exact HXw5.out
    have HBD2 : Hid (Below w5.heap.size w5 wd2) := by rw [← hwd2]; exact drew_bel w5
    have HWD2 : Hid (w5.drew = wd2) := hwd2
    have HOD2 : Hid (Om b.o N (fun k => vs.filter (fun y => decide (y.f = k))) Fo eo co wd2) := HOMw5.out.bel HBD2.out
    have HSZ2 : Hid (w.heap.size ≤ wd2.heap.size) := Nat.le_trans HKw5.out.size HBD2.out.size
    clear hle2 hwd2
    refine wp_region_held_drew (S := fun W => SB NwK b2 (nwL b) W ∧ SB EdK b3 (edL e) W) (by kernel_rfl) (by rw [HWD2.out]; exact HXD2.out) (fun hHeld => ?_)
    rw [HWD2.out] at hHeld ⊢
    refine wpAnyH_take (i := 0) (v := .pointer (some ⟨b2, 2, none⟩)) rfl (by kernel_rfl) (by kernel_rfl) (by kernel_rfl) (fun _ _ _ h => h) (Or.inl ⟨by rfl, ?_⟩) (by assumption) ?_
    case refine_1 => intro W hSw; go_simp; try rfl
    try simp only [Act.put, List.getElem_toArray, List.getElem_cons_zero, List.getElem_cons_succ, List.setIfInBounds_toArray, List.set_cons_zero, List.set_cons_succ]
    refine wpAnyH_take (i := 1) (v := .map (some b.o)) rfl (by kernel_rfl) (by kernel_rfl) (by kernel_rfl) (fun _ _ _ h => h) (Or.inl ⟨by rfl, ?_⟩) (by assumption) ?_
    case refine_1 => intro W hSw; have k1 : W.cell? ⟨b2, 2, none⟩ = some (.map (some b.o)) := hSw.1.cell 2; go_simp; try rfl
    try simp only [Act.put, List.getElem_toArray, List.getElem_cons_zero, List.getElem_cons_succ, List.setIfInBounds_toArray, List.set_cons_zero, List.set_cons_succ]
    refine wpAnyH_take (i := 2) (v := .pointer (some ⟨b3, 0, none⟩)) rfl (by kernel_rfl) (by kernel_rfl) (by kernel_rfl) (fun _ _ _ h => h) (Or.inl ⟨by rfl, ?_⟩) (by assumption) ?_
    case refine_1 => intro W hSw; go_simp; try rfl
    try simp only [Act.put, List.getElem_toArray, List.getElem_cons_zero, List.getElem_cons_succ, List.setIfInBounds_toArray, List.set_cons_zero, List.set_cons_succ]
    refine wpAnyH_take (i := 3) (v := .int .i64 e.f) rfl (by kernel_rfl) (by kernel_rfl) (by kernel_rfl) (fun _ _ _ h => h) (Or.inl ⟨by rfl, ?_⟩) (by assumption) ?_
    case refine_1 => intro W hSw; have k1 : W.cell? ⟨b3, 0, none⟩ = some (.int .i64 e.f) := hSw.2.cell 0; go_simp; try rfl
    try simp only [Act.put, List.getElem_toArray, List.getElem_cons_zero, List.getElem_cons_succ, List.setIfInBounds_toArray, List.set_cons_zero, List.set_cons_succ]
    refine wpAnyH_take (i := 4) (v := .pointer (some ⟨b2, 2, none⟩)) rfl (by kernel_rfl) (by kernel_rfl) (by kernel_rfl) (fun _ _ _ h => h) (Or.inl ⟨by rfl, ?_⟩) (by assumption) ?_
    case refine_1 => intro W hSw; go_simp; try rfl
    try simp only [Act.put, List.getElem_toArray, List.getElem_cons_zero, List.getElem_cons_succ, List.setIfInBounds_toArray, List.set_cons_zero, List.set_cons_succ]
    refine wpAnyH_take (i := 5) (v := .map (some b.o)) rfl (by kernel_rfl) (by kernel_rfl) (by kernel_rfl) (fun _ _ _ h => h) (Or.inl ⟨by rfl, ?_⟩) (by assumption) ?_
    case refine_1 => intro W hSw; have k1 : W.cell? ⟨b2, 2, none⟩ = some (.map (some b.o)) := hSw.1.cell 2; go_simp; try rfl
    try simp only [Act.put, List.getElem_toArray, List.getElem_cons_zero, List.getElem_cons_succ, List.setIfInBounds_toArray, List.set_cons_zero, List.set_cons_succ]
    refine wpAnyH_take (i := 6) (v := .pointer (some ⟨b3, 0, none⟩)) rfl (by kernel_rfl) (by kernel_rfl) (by kernel_rfl) (fun _ _ _ h => h) (Or.inl ⟨by rfl, ?_⟩) (by assumption) ?_
    case refine_1 => intro W hSw; go_simp; try rfl
    try simp only [Act.put, List.getElem_toArray, List.getElem_cons_zero, List.getElem_cons_succ, List.setIfInBounds_toArray, List.set_cons_zero, List.set_cons_succ]
    refine wpAnyH_take (i := 7) (v := .int .i64 e.f) rfl (by kernel_rfl) (by kernel_rfl) (by kernel_rfl) (fun _ _ _ h => h) (Or.inl ⟨by rfl, ?_⟩) (by assumption) ?_
    case refine_1 => intro W hSw; have k1 : W.cell? ⟨b3, 0, none⟩ = some (.int .i64 e.f) := hSw.2.cell 0; go_simp; try rfl
    try simp only [Act.put, List.getElem_toArray, List.getElem_cons_zero, List.getElem_cons_succ, List.setIfInBounds_toArray, List.set_cons_zero, List.set_cons_succ]
    refine wpAnyH_take (i := 9) (v := .agg (edL e).toArray) rfl (by kernel_rfl) (by kernel_rfl) (by kernel_rfl) (fun _ _ _ h => h) (Or.inl ⟨by rfl, (fun W hSw => Go.Proofs.Ythhdpfgepjmgkaa.Ge.sload_run EdK (.tmp 3) rfl (b := b3) rfl hSw.2 rfl)⟩) (by assumption) ?_
    try simp only [Act.put, List.getElem_toArray, List.getElem_cons_zero, List.getElem_cons_succ, List.setIfInBounds_toArray, List.set_cons_zero, List.set_cons_succ]
    refine wpAnyH_ready (rs := [8, 10]) (by kernel_rfl) (by simp) ?_
    refine AllReadyH.cons rfl (fun K hK => ?_) (AllReadyH.cons rfl (fun K hK => ?_) AllReadyH.nil)
    case' _ =>
      refine step_run rfl (look_runv MIS (.tmp 20) (.tmp 22) rfl (k := e.f) (v := slV (s0 eo e.f)) rfl rfl (HOD2.out.m) (got_is _ _)) ?_
      refine hK.out _ _ hHeld (fun hHeld => ?_)
      clear hK K
      try simp only [Act.put, List.getElem_toArray, List.getElem_cons_zero, List.getElem_cons_succ, List.setIfInBounds_toArray, List.set_cons_zero, List.set_cons_succ]
      refine wpAnyH_ready (rs := [10]) (by kernel_rfl) (by simp) ?_
      refine AllReadyH.cons rfl (fun K hK => ?_) AllReadyH.nil
      refine ebuild_step (.tmp 24) rfl (m := e) rfl rfl (fun b9 w6a hb9 hx9 hbl9 => ?_)
      have HBw6a : Hid (Below wd2.heap.size wd2 w6a) := hbl9.out
      have HLX : Hid (Lst EE w6a (some ⟨b9, 0, none⟩) [e]) := hx9.out
      refine hK.out _ _ ⟨hHeld.1.blk (hbl9.out.block b2 hHeld.1.lt), hHeld.2.blk (hbl9.out.block b3 hHeld.2.lt)⟩ (fun hHeld => ?_)
      clear hK K hb9 hx9 hbl9
      try simp only [Act.put, List.getElem_toArray, List.getElem_cons_zero, List.getElem_cons_succ, List.setIfInBounds_toArray, List.set_cons_zero, List.set_cons_succ]
    rotate_left
    case' _ =>
      refine ebuild_step (.tmp 24) rfl (m := e) rfl rfl (fun b9 w6a hb9 hx9 hbl9 => ?_)
      have HBw6a : Hid (Below wd2.heap.size wd2 w6a) := hbl9.out
      have HLX : Hid (Lst EE w6a (some ⟨b9, 0, none⟩) [e]) := hx9.out
      refine hK.out _ _ ⟨hHeld.1.blk (hbl9.out.block b2 hHeld.1.lt), hHeld.2.blk (hbl9.out.block b3 hHeld.2.lt)⟩ (fun hHeld => ?_)
      clear hK K hb9 hx9 hbl9
      try simp only [Act.put, List.getElem_toArray, List.getElem_cons_zero, List.getElem_cons_succ, List.setIfInBounds_toArray, List.set_cons_zero, List.set_cons_succ]
      refine wpAnyH_ready (rs := [8]) (by kernel_rfl) (by simp) ?_
      refine AllReadyH.cons rfl (fun K hK => ?_) AllReadyH.nil
      refine step_run rfl (look_runv MIS (.tmp 20) (.tmp 22) rfl (k := e.f) (v := slV (s0 eo e.f)) rfl rfl ((HOD2.out.bel HBw6a.out).m) (got_is _ _)) ?_
      refine hK.out _ _ hHeld (fun hHeld => ?_)
      clear hK K
      try simp only [Act.put, List.getElem_toArray, List.getElem_cons_zero, List.getElem_cons_succ, List.setIfInBounds_toArray, List.set_cons_zero, List.set_cons_succ]
    all_goals
      refine wpAnyH_ready (rs := [11]) (by kernel_rfl) (by simp) ?_
      refine AllReadyH.cons rfl (fun K hK => ?_) AllReadyH.nil
      refine step_appL EE (.tmp 23) (.tmp 25) 22 rfl rfl N (slV (s0 eo e.f)) (vs.filter (fun y => decide (y.f = e.f))) [e] (some ⟨b9, 0, none⟩) 1 1 w6a (by have := HLE2.out; omega) rfl ((HOD2.out.bel HBw6a.out).own e.f) rfl HLX.out (fun e => by cases e) rfl (Nat.le_trans HL.out.2 (Nat.le_trans HSZ2.out HBw6a.out.size)) rfl (fun v7 w6b ho7 hg7 ha7 => ?_)
      have hF7 : ∀ g, (slV (s0 eo e.f)).ownBlock = some g → g < w.heap.size ∨ Fo g := fun g e7 => .inr (HOD2.out.fo e.f g e7).1
      refine hK.out _ _ ⟨hHeld.1.blk (hg7.out.block b2 hHeld.1.lt (fun c => HNX2.out b2 (HOD2.out.fo e.f b2 c.symm).1 (.inl rfl))), hHeld.2.blk (hg7.out.block b3 hHeld.2.lt (fun c => HNX2.out b3 (HOD2.out.fo e.f b3 c.symm).1 (.inr rfl)))⟩ (fun hHeld => ?_)
      obtain ⟨a7, c7, rfl, -, -, -⟩ := ho7.out.form
      obtain ⟨n7, hn7⟩ : ∃ y, (vs.filter (fun y => decide (y.f = e.f)) ++ [e]).length = y := ⟨_, rfl⟩
      have HO7 : Hid (OwnL EE N w6b (slV ⟨a7, n7, c7⟩) (vs.filter (fun y => decide (y.f = e.f)) ++ [e])) := by rw [← hn7]; exact ho7.out
      have HA7 : Hid (∀ g, (slV ⟨a7, n7, c7⟩).ownBlock = some g → (slV (s0 eo e.f)).ownBlock = some g ∨ wd2.heap.size ≤ g) := fun g e7 => by
        rw [← hn7] at e7
        rcases ha7.out with h | h
        · exact .inl (h ▸ e7)
        · have h8 := h ▸ e7
          exact .inr (by have h9 := Option.some.inj (show some w6a.heap.size = some g from h8); have := HBw6a.out.size; omega)
      have HM7 : Hid (MB MIS b.o eo co w6b) := (HOD2.out.bel HBw6a.out).m.blk (hg7.out.block b.o ((HOD2.out.bel HBw6a.out).m.lt) (fun c => (HOD2.out.fo e.f b.o c.symm).2 rfl))
      have HG7 : Hid (w6a.grownBy w6b (slV (s0 eo e.f)).ownBlock) := hg7.out
      rw [hn7]
      clear hK K ho7 hg7 ha7 hn7 hF7
      try simp only [Act.put, List.getElem_toArray, List.getElem_cons_zero, List.getElem_cons_succ, List.setIfInBounds_toArray, List.set_cons_zero, List.set_cons_succ]
      refine wpAnyH_ready (rs := [12]) (by kernel_rfl) (by simp) ?_
      refine AllReadyH.cons rfl (fun K hK => ?_) AllReadyH.nil
      refine put_step MIS (.tmp 16) (.tmp 18) (.tmp 26) rfl (k := e.f) (u := ⟨a7, n7, c7⟩) rfl rfl rfl HM7.out rfl (fun w6 hm8 hk8 => ?_)
      refine hK.out _ _ ⟨hHeld.1.blk (hk8.out.block b2 (fun c => HNX2.out b2 (by rw [c]; exact HOD2.out.fb) (.inl rfl))), hHeld.2.blk (hk8.out.block b3 (fun c => HNX2.out b3 (by rw [c]; exact HOD2.out.fb) (.inr rfl)))⟩ (fun hHeld => ?_)
      have HXw6 : Hid (SB NwK b2 (nwL b) w6 ∧ SB EdK b3 (edL e) w6) := hHeld
      have HOMw6 : Hid (Om b.o N (fun k => (vs ++ [e]).filter (fun y => decide (y.f = k))) (fun g => Fo g ∨ (slV ⟨a7, n7, c7⟩).ownBlock = some g) (mput eo co e.f ⟨a7, n7, c7⟩) (mclk eo co e.f) w6) := by
        rw [← put_flt vs e (fun y => y.f)]
        have hne7 : ∀ g, (slV ⟨a7, n7, c7⟩).ownBlock = some g → g ≠ b.o := fun g e7 => by
          rcases HA7.out g e7 with h | h
          · exact (HOD2.out.fo e.f g h).2
          · have := HOD2.out.lt b.o HOD2.out.fb; omega
        exact HOD2.out.app e.f e ⟨a7, n7, c7⟩ hm8.out (HO7.out.blk (fun g e7 => hk8.out.block g (hne7 g e7))) HA7.out (fun g hF hb hs => (hk8.out.block g hb).trans ((HG7.out.block g (Nat.lt_of_lt_of_le (HOD2.out.lt g hF) HBw6a.out.size) (fun c => hs c.symm)).trans (HBw6a.out.block g (HOD2.out.lt g hF)))) (by rw [hk8.out.size]; exact Nat.le_trans HBw6a.out.size HG7.out.size)
      have HKWw6 : Hid (Kf (fun g => Fo g) wd2 w6) := ((Kf.of_bel HBw6a.out (F := fun g => Fo g)).trans (Kf.of_grown HG7.out (F := fun g => Fo g) (fun g e7 => (HOD2.out.fo e.f g e7).1)) (fun _ _ e => e)).trans (Kf.of_ko hk8.out (F := fun g => Fo g) (fun _ => HOD2.out.fb)) (fun _ _ e => e)
      have HNEWw6 : Hid (∀ g, (Fo g ∨ (slV ⟨a7, n7, c7⟩).ownBlock = some g) → Fo g ∨ w.heap.size ≤ g) := fun g h => by
        rcases h with h | h
        · exact .inl h
        · rcases HA7.out g h with h | h
          · exact .inl (HOD2.out.fo e.f g h).1
          · exact .inr (Nat.le_trans HSZ2.out h)
      have HSPw6 : Hid (∀ g, (Fo g ∨ (slV ⟨a7, n7, c7⟩).ownBlock = some g) → g < wd2.heap.size → Fo g) := fun g h hl => by
        rcases h with h | h
        · exact h
        · rcases HA7.out g h with h | h
          · exact (HOD2.out.fo e.f g h).1
          · omega
      obtain ⟨Fw6, hFw6⟩ : ∃ F : Nat → Prop, (fun g => Fo g ∨ (slV ⟨a7, n7, c7⟩).ownBlock = some g) = F := ⟨_, rfl⟩
      rw [hFw6] at HOMw6
      have HNEw6 : Hid (∀ g, Fw6 g → Fo g ∨ w.heap.size ≤ g) := by rw [← hFw6]; exact HNEWw6.out
      have HSSw6 : Hid (∀ g, Fw6 g → g < wd2.heap.size → Fo g) := by rw [← hFw6]; exact HSPw6.out
      clear hK K hm8 hk8 hFw6 HNEWw6 HSPw6 HM7 HG7 HO7 HA7 HLX HBw6a
      refine wpAnyH_done (by kernel_rfl) ?_ _
      clear hHeld HXD2 HWD2 HLE2
    all_goals
      have HKw6 : Hid (Kf (fun g => g = b.m ∨ Fo g ∨ Fi g) w w6) := (HKw5.out.trans (Kf.of_bel HBD2.out (F := fun _ => False)) (fun _ _ e => e.elim)).trans HKWw6.out (fun b _ e => .inr (.inl e))
      have HIMw6 : Hid (Om b.i N (fun k => vs.filter (fun y => decide (y.t = k))) Fi ei ci w6) := (HIMw5.out.bel HBD2.out).blk (fun g hg => HKWw6.out.blk g (Nat.lt_of_lt_of_le (HIMw5.out.lt g hg) HBD2.out.size) (fun c => HW.out.sep g c hg)) HKWw6.out.size
      have HM6 : Hid (∃ em' cm', MB MPI b.m em' cm' w6 ∧ Mok em' cm' ∧ ∀ p, (mget em' p).getD 0 = (cnt (vs ++ [e]) p : Nat)) := by
        obtain ⟨em', cm', h1, h2, h3⟩ := HM5.out
        exact ⟨em', cm', (h1.blk (HBD2.out.block b.m h1.lt)).blk (HKWw6.out.blk b.m (Nat.lt_of_lt_of_le h1.lt HBD2.out.size) HW.out.nm.1), h2, h3⟩
      clear HM5 HIMw5 HOMw5
      go_wp2_with fail
      have hle3 : (vs.filter (fun y => decide (y.t = e.t))).length ≤ vs.length := List.length_filter_le _ _
      have HLE3 : Hid ((vs.filter (fun y => decide (y.t = e.t))).length < 1000000000) := by have := HL.out; show _ < _; omega
      obtain ⟨wd3, hwd3⟩ : ∃ y, w6.drew = y := ⟨_, rfl⟩
      have HXD3 : Hid (SB NwK b2 (nwL b) wd3 ∧ SB EdK b3 (edL e) wd3) := by rw [← hwd3]; exact HXw6.out
      have HBD3 : Hid (Below w6.heap.size w6 wd3) := by rw [← hwd3]; exact drew_bel w6
      have HWD3 : Hid (w6.drew = wd3) := hwd3
      have HOD3 : Hid (Om b.i N (fun k => vs.filter (fun y => decide (y.t = k))) Fi ei ci wd3) := HIMw6.out.bel HBD3.out
      have HSZ3 : Hid (w.heap.size ≤ wd3.heap.size) := Nat.le_trans HKw6.out.size HBD3.out.size
      clear hle3 hwd3
      refine wp_region_held_drew (S := fun W => SB NwK b2 (nwL b) W ∧ SB EdK b3 (edL e) W) (by kernel_rfl) (by rw [HWD3.out]; exact HXD3.out) (fun hHeld => ?_)
      rw [HWD3.out] at hHeld ⊢
      refine wpAnyH_take (i := 0) (v := .pointer (some ⟨b2, 3, none⟩)) rfl (by kernel_rfl) (by kernel_rfl) (by kernel_rfl) (fun _ _ _ h => h) (Or.inl ⟨by rfl, ?_⟩) (by assumption) ?_
      case refine_1 => intro W hSw; go_simp; try rfl
      try simp only [Act.put, List.getElem_toArray, List.getElem_cons_zero, List.getElem_cons_succ, List.setIfInBounds_toArray, List.set_cons_zero, List.set_cons_succ]
      refine wpAnyH_take (i := 1) (v := .map (some b.i)) rfl (by kernel_rfl) (by kernel_rfl) (by kernel_rfl) (fun _ _ _ h => h) (Or.inl ⟨by rfl, ?_⟩) (by assumption) ?_
      case refine_1 => intro W hSw; have k1 : W.cell? ⟨b2, 3, none⟩ = some (.map (some b.i)) := hSw.1.cell 3; go_simp; try rfl
      try simp only [Act.put, List.getElem_toArray, List.getElem_cons_zero, List.getElem_cons_succ, List.setIfInBounds_toArray, List.set_cons_zero, List.set_cons_succ]
      refine wpAnyH_take (i := 2) (v := .pointer (some ⟨b3, 1, none⟩)) rfl (by kernel_rfl) (by kernel_rfl) (by kernel_rfl) (fun _ _ _ h => h) (Or.inl ⟨by rfl, ?_⟩) (by assumption) ?_
      case refine_1 => intro W hSw; go_simp; try rfl
      try simp only [Act.put, List.getElem_toArray, List.getElem_cons_zero, List.getElem_cons_succ, List.setIfInBounds_toArray, List.set_cons_zero, List.set_cons_succ]
      refine wpAnyH_take (i := 3) (v := .int .i64 e.t) rfl (by kernel_rfl) (by kernel_rfl) (by kernel_rfl) (fun _ _ _ h => h) (Or.inl ⟨by rfl, ?_⟩) (by assumption) ?_
      case refine_1 => intro W hSw; have k1 : W.cell? ⟨b3, 1, none⟩ = some (.int .i64 e.t) := hSw.2.cell 1; go_simp; try rfl
      try simp only [Act.put, List.getElem_toArray, List.getElem_cons_zero, List.getElem_cons_succ, List.setIfInBounds_toArray, List.set_cons_zero, List.set_cons_succ]
      refine wpAnyH_take (i := 4) (v := .pointer (some ⟨b2, 3, none⟩)) rfl (by kernel_rfl) (by kernel_rfl) (by kernel_rfl) (fun _ _ _ h => h) (Or.inl ⟨by rfl, ?_⟩) (by assumption) ?_
      case refine_1 => intro W hSw; go_simp; try rfl
      try simp only [Act.put, List.getElem_toArray, List.getElem_cons_zero, List.getElem_cons_succ, List.setIfInBounds_toArray, List.set_cons_zero, List.set_cons_succ]
      refine wpAnyH_take (i := 5) (v := .map (some b.i)) rfl (by kernel_rfl) (by kernel_rfl) (by kernel_rfl) (fun _ _ _ h => h) (Or.inl ⟨by rfl, ?_⟩) (by assumption) ?_
      case refine_1 => intro W hSw; have k1 : W.cell? ⟨b2, 3, none⟩ = some (.map (some b.i)) := hSw.1.cell 3; go_simp; try rfl
      try simp only [Act.put, List.getElem_toArray, List.getElem_cons_zero, List.getElem_cons_succ, List.setIfInBounds_toArray, List.set_cons_zero, List.set_cons_succ]
      refine wpAnyH_take (i := 6) (v := .pointer (some ⟨b3, 1, none⟩)) rfl (by kernel_rfl) (by kernel_rfl) (by kernel_rfl) (fun _ _ _ h => h) (Or.inl ⟨by rfl, ?_⟩) (by assumption) ?_
      case refine_1 => intro W hSw; go_simp; try rfl
      try simp only [Act.put, List.getElem_toArray, List.getElem_cons_zero, List.getElem_cons_succ, List.setIfInBounds_toArray, List.set_cons_zero, List.set_cons_succ]
      refine wpAnyH_take (i := 7) (v := .int .i64 e.t) rfl (by kernel_rfl) (by kernel_rfl) (by kernel_rfl) (fun _ _ _ h => h) (Or.inl ⟨by rfl, ?_⟩) (by assumption) ?_
      case refine_1 => intro W hSw; have k1 : W.cell? ⟨b3, 1, none⟩ = some (.int .i64 e.t) := hSw.2.cell 1; go_simp; try rfl
      try simp only [Act.put, List.getElem_toArray, List.getElem_cons_zero, List.getElem_cons_succ, List.setIfInBounds_toArray, List.set_cons_zero, List.set_cons_succ]
      refine wpAnyH_take (i := 9) (v := .agg (edL e).toArray) rfl (by kernel_rfl) (by kernel_rfl) (by kernel_rfl) (fun _ _ _ h => h) (Or.inl ⟨by rfl, (fun W hSw => Go.Proofs.Ythhdpfgepjmgkaa.Ge.sload_run EdK (.tmp 3) rfl (b := b3) rfl hSw.2 rfl)⟩) (by assumption) ?_
      try simp only [Act.put, List.getElem_toArray, List.getElem_cons_zero, List.getElem_cons_succ, List.setIfInBounds_toArray, List.set_cons_zero, List.set_cons_succ]
      refine wpAnyH_ready (rs := [8, 10]) (by kernel_rfl) (by simp) ?_
      refine AllReadyH.cons rfl (fun K hK => ?_) (AllReadyH.cons rfl (fun K hK => ?_) AllReadyH.nil)
      case' _ =>
        refine step_run rfl (look_runv MIS (.tmp 32) (.tmp 34) rfl (k := e.t) (v := slV (s0 ei e.t)) rfl rfl (HOD3.out.m) (got_is _ _)) ?_
        refine hK.out _ _ hHeld (fun hHeld => ?_)
        clear hK K
        try simp only [Act.put, List.getElem_toArray, List.getElem_cons_zero, List.getElem_cons_succ, List.setIfInBounds_toArray, List.set_cons_zero, List.set_cons_succ]
        refine wpAnyH_ready (rs := [10]) (by kernel_rfl) (by simp) ?_
        refine AllReadyH.cons rfl (fun K hK => ?_) AllReadyH.nil
        refine ebuild_step (.tmp 36) rfl (m := e) rfl rfl (fun b9 w7a hb9 hx9 hbl9 => ?_)
        have HBw7a : Hid (Below wd3.heap.size wd3 w7a) := hbl9.out
        have HLX : Hid (Lst EE w7a (some ⟨b9, 0, none⟩) [e]) := hx9.out
        refine hK.out _ _ ⟨hHeld.1.blk (hbl9.out.block b2 hHeld.1.lt), hHeld.2.blk (hbl9.out.block b3 hHeld.2.lt)⟩ (fun hHeld => ?_)
        clear hK K hb9 hx9 hbl9
        try simp only [Act.put, List.getElem_toArray, List.getElem_cons_zero, List.getElem_cons_succ, List.setIfInBounds_toArray, List.set_cons_zero, List.set_cons_succ]
      rotate_left
      case' _ =>
        refine ebuild_step (.tmp 36) rfl (m := e) rfl rfl (fun b9 w7a hb9 hx9 hbl9 => ?_)
        have HBw7a : Hid (Below wd3.heap.size wd3 w7a) := hbl9.out
        have HLX : Hid (Lst EE w7a (some ⟨b9, 0, none⟩) [e]) := hx9.out
        refine hK.out _ _ ⟨hHeld.1.blk (hbl9.out.block b2 hHeld.1.lt), hHeld.2.blk (hbl9.out.block b3 hHeld.2.lt)⟩ (fun hHeld => ?_)
        clear hK K hb9 hx9 hbl9
        try simp only [Act.put, List.getElem_toArray, List.getElem_cons_zero, List.getElem_cons_succ, List.setIfInBounds_toArray, List.set_cons_zero, List.set_cons_succ]
        refine wpAnyH_ready (rs := [8]) (by kernel_rfl) (by simp) ?_
        refine AllReadyH.cons rfl (fun K hK => ?_) AllReadyH.nil
        refine step_run rfl (look_runv MIS (.tmp 32) (.tmp 34) rfl (k := e.t) (v := slV (s0 ei e.t)) rfl rfl ((HOD3.out.bel HBw7a.out).m) (got_is _ _)) ?_
        refine hK.out _ _ hHeld (fun hHeld => ?_)
        clear hK K
        try simp only [Act.put, List.getElem_toArray, List.getElem_cons_zero, List.getElem_cons_succ, List.setIfInBounds_toArray, List.set_cons_zero, List.set_cons_succ]
      all_goals
        refine wpAnyH_ready (rs := [11]) (by kernel_rfl) (by simp) ?_
        refine AllReadyH.cons rfl (fun K hK => ?_) AllReadyH.nil
        refine step_appL EE (.tmp 35) (.tmp 37) 22 rfl rfl N (slV (s0 ei e.t)) (vs.filter (fun y => decide (y.t = e.t))) [e] (some ⟨b9, 0, none⟩) 1 1 w7a (by have := HLE3.out; omega) rfl ((HOD3.out.bel HBw7a.out).own e.t) rfl HLX.out (fun e => by cases e) rfl (Nat.le_trans HL.out.2 (Nat.le_trans HSZ3.out HBw7a.out.size)) rfl (fun v7 w7b ho7 hg7 ha7 => ?_)
        have hF7 : ∀ g, (slV (s0 ei e.t)).ownBlock = some g → g < w.heap.size ∨ Fi g := fun g e7 => .inr (HOD3.out.fo e.t g e7).1
        refine hK.out _ _ ⟨hHeld.1.blk (hg7.out.block b2 hHeld.1.lt (fun c => HNX3.out b2 (HOD3.out.fo e.t b2 c.symm).1 (.inl rfl))), hHeld.2.blk (hg7.out.block b3 hHeld.2.lt (fun c => HNX3.out b3 (HOD3.out.fo e.t b3 c.symm).1 (.inr rfl)))⟩ (fun hHeld => ?_)
        obtain ⟨a7, c7, rfl, -, -, -⟩ := ho7.out.form
        obtain ⟨n7, hn7⟩ : ∃ y, (vs.filter (fun y => decide (y.t = e.t)) ++ [e]).length = y := ⟨_, rfl⟩
        have HO7 : Hid (OwnL EE N w7b (slV ⟨a7, n7, c7⟩) (vs.filter (fun y => decide (y.t = e.t)) ++ [e])) := by rw [← hn7]; exact ho7.out
        have HA7 : Hid (∀ g, (slV ⟨a7, n7, c7⟩).ownBlock = some g → (slV (s0 ei e.t)).ownBlock = some g ∨ wd3.heap.size ≤ g) := fun g e7 => by
          rw [← hn7] at e7
          rcases ha7.out with h | h
          · exact .inl (h ▸ e7)
          · have h8 := h ▸ e7
            exact .inr (by have h9 := Option.some.inj (show some w7a.heap.size = some g from h8); have := HBw7a.out.size; omega)
        have HM7 : Hid (MB MIS b.i ei ci w7b) := (HOD3.out.bel HBw7a.out).m.blk (hg7.out.block b.i ((HOD3.out.bel HBw7a.out).m.lt) (fun c => (HOD3.out.fo e.t b.i c.symm).2 rfl))
        have HG7 : Hid (w7a.grownBy w7b (slV (s0 ei e.t)).ownBlock) := hg7.out
        rw [hn7]
        clear hK K ho7 hg7 ha7 hn7 hF7
        try simp only [Act.put, List.getElem_toArray, List.getElem_cons_zero, List.getElem_cons_succ, List.setIfInBounds_toArray, List.set_cons_zero, List.set_cons_succ]
        refine wpAnyH_ready (rs := [12]) (by kernel_rfl) (by simp) ?_
        refine AllReadyH.cons rfl (fun K hK => ?_) AllReadyH.nil
        refine put_step MIS (.tmp 28) (.tmp 30) (.tmp 38) rfl (k := e.t) (u := ⟨a7, n7, c7⟩) rfl rfl rfl HM7.out rfl (fun w7 hm8 hk8 => ?_)
        refine hK.out _ _ ⟨hHeld.1.blk (hk8.out.block b2 (fun c => HNX3.out b2 (by rw [c]; exact HOD3.out.fb) (.inl rfl))), hHeld.2.blk (hk8.out.block b3 (fun c => HNX3.out b3 (by rw [c]; exact HOD3.out.fb) (.inr rfl)))⟩ (fun hHeld => ?_)
        have HXw7 : Hid (SB NwK b2 (nwL b) w7 ∧ SB EdK b3 (edL e) w7) := hHeld
        have HOMw7 : Hid (Om b.i N (fun k => (vs ++ [e]).filter (fun y => decide (y.t = k))) (fun g => Fi g ∨ (slV ⟨a7, n7, c7⟩).ownBlock = some g) (mput ei ci e.t ⟨a7, n7, c7⟩) (mclk ei ci e.t) w7) := by
          rw [← put_flt vs e (fun y => y.t)]
          have hne7 : ∀ g, (slV ⟨a7, n7, c7⟩).ownBlock = some g → g ≠ b.i := fun g e7 => by
            rcases HA7.out g e7 with h | h
            · exact (HOD3.out.fo e.t g h).2
            · have := HOD3.out.lt b.i HOD3.out.fb; omega
          exact HOD3.out.app e.t e ⟨a7, n7, c7⟩ hm8.out (HO7.out.blk (fun g e7 => hk8.out.block g (hne7 g e7))) HA7.out (fun g hF hb hs => (hk8.out.block g hb).trans ((HG7.out.block g (Nat.lt_of_lt_of_le (HOD3.out.lt g hF) HBw7a.out.size) (fun c => hs c.symm)).trans (HBw7a.out.block g (HOD3.out.lt g hF)))) (by rw [hk8.out.size]; exact Nat.le_trans HBw7a.out.size HG7.out.size)
        have HKWw7 : Hid (Kf (fun g => Fi g) wd3 w7) := ((Kf.of_bel HBw7a.out (F := fun g => Fi g)).trans (Kf.of_grown HG7.out (F := fun g => Fi g) (fun g e7 => (HOD3.out.fo e.t g e7).1)) (fun _ _ e => e)).trans (Kf.of_ko hk8.out (F := fun g => Fi g) (fun _ => HOD3.out.fb)) (fun _ _ e => e)
        have HNEWw7 : Hid (∀ g, (Fi g ∨ (slV ⟨a7, n7, c7⟩).ownBlock = some g) → Fi g ∨ w.heap.size ≤ g) := fun g h => by
          rcases h with h | h
          · exact .inl h
          · rcases HA7.out g h with h | h
            · exact .inl (HOD3.out.fo e.t g h).1
            · exact .inr (Nat.le_trans HSZ3.out h)
        have HSPw7 : Hid (∀ g, (Fi g ∨ (slV ⟨a7, n7, c7⟩).ownBlock = some g) → g < wd3.heap.size → Fi g) := fun g h hl => by
          rcases h with h | h
          · exact h
          · rcases HA7.out g h with h | h
            · exact (HOD3.out.fo e.t g h).1
            · omega
        obtain ⟨Fw7, hFw7⟩ : ∃ F : Nat → Prop, (fun g => Fi g ∨ (slV ⟨a7, n7, c7⟩).ownBlock = some g) = F := ⟨_, rfl⟩
        rw [hFw7] at HOMw7
        have HNEw7 : Hid (∀ g, Fw7 g → Fi g ∨ w.heap.size ≤ g) := by rw [← hFw7]; exact HNEWw7.out
        have HSSw7 : Hid (∀ g, Fw7 g → g < wd3.heap.size → Fi g) := by rw [← hFw7]; exact HSPw7.out
        clear hK K hm8 hk8 hFw7 HNEWw7 HSPw7 HM7 HG7 HO7 HA7 HLX HBw7a
        refine wpAnyH_done (by kernel_rfl) ?_ _
        clear hHeld HXD3 HWD3 HLE3
      all_goals
        have HE : Hid (EnPost w N b vs e Fo Fi (.returned (.tuple #[])) w7) := by
          obtain ⟨em', cm', h1, h2, h3⟩ := HM6.out
          have hKK : Kf (fun g => g = b.m ∨ Fo g ∨ Fi g) w w7 := (HKw6.out.trans (Kf.of_bel HBD3.out (F := fun _ => False)) (fun _ _ e => e.elim)).trans HKWw7.out (fun b _ e => .inr (.inr e))
          have hF6 : ∀ g, Fw6 g → ¬ Fi g := fun g h c => by
            rcases HNEw6.out g h with h4 | h4
            · exact HW.out.sep g h4 c
            · have := HW.out.inn.lt g c; omega
          have hO7 := (HOMw6.out.bel HBD3.out).blk (fun g hg => HKWw7.out.blk g (Nat.lt_of_lt_of_le (HOMw6.out.lt g hg) HBD3.out.size) (hF6 g hg)) HKWw7.out.size
          have hbm : b.m < w.heap.size := HW.out.mm.lt
          exact ⟨rfl, Fw6, Fw7, em', cm', _, _, _, _, ⟨(h1.blk (HBD3.out.block b.m h1.lt)).blk (HKWw7.out.blk b.m (Nat.lt_of_lt_of_le h1.lt HBD3.out.size) HW.out.nm.2), h2, h3, hO7, HOMw7.out, fun g h4 h5 => by
            have h6 : g < wd3.heap.size := Nat.lt_of_lt_of_le (HOMw6.out.lt g h4) HBD3.out.size
            exact hF6 g h4 (HSSw7.out g h5 h6), ⟨fun c => by
              rcases HNEw6.out _ c with h4 | h4
              · exact HW.out.nm.1 h4
              · omega, fun c => by
              rcases HNEw7.out _ c with h4 | h4
              · exact HW.out.nm.2 h4
              · omega⟩⟩, hKK, HNEw6.out, HNEw7.out⟩
        clear HM6 HIMw6 HOMw6 HKw6
        go_wp2_with fail
        go_end0
        exact HE.out
end Go.Proofs.Ythhdpfgepjmgkaa.Dj
