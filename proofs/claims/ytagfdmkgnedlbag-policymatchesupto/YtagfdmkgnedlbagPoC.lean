/- A machine in memory: add, fork. -/
import Derived.Test.YtagfdmkgnedlbagPoB
import Derived.Test.YtagfdmkgnedlbagGeA
import Derived.Maps.AppendAt
import Derived.Deep.RegionHeld3
import Derived.Deep.CutRange
namespace Go.Proofs.Ytagfdmkgnedlbag.Po
open Go.ChangeShapes Go.WideShapes Go.ChangeAt Go.RowKit Go.Joins Go.Proofs.Ytagfdmkgnedlbag.Ge
set_option linter.unusedVariables false

def EI : El Int := ⟨3, 25, 1, 8, .int .i64 0, fun p => [.int .i64 p], by decide, by decide, fun _ => rfl, fun x u hu => by simp at hu; subst hu; rfl, Try.underlying25, by kernel_rfl, rfl⟩
def ET : El St := ⟨39, 40, 4, 32, .agg #[.int .i64 0, .int .i64 0, .int .i64 0, .int .i64 0], fun p => [.int .i64 p.k, .int .i64 p.n, .int .i64 p.t, .int .i64 p.o], by decide, by decide, fun _ => rfl, fun x u hu => by simp at hu; rcases hu with rfl | rfl | rfl | rfl <;> rfl, Try.underlying40, by kernel_rfl, rfl⟩
theorem box_set {w : World} {b i : Nat} {cs : Array Value} {T : TypeId} (h : w.heap[b]? = some (Obj.cells cs T)) (v : Value) : (w.setCell ⟨b, i, none⟩ v).heap[b]? = some (Obj.cells (cs.setIfInBounds i v) T) := by
  simp [World.setCell, h, Array.getElem?_modify]
theorem box_at {w : World} {b i : Nat} {cs : Array Value} {T : TypeId} (h : w.heap[b]? = some (Obj.cells cs T)) : w.cell? ⟨b, i, none⟩ = cs[i]? ∧ w.frozen? ⟨b, i, none⟩ = false := ⟨by simp [World.cell?, h], by simp [World.frozen?, h]⟩
theorem drewB (w : World) : Below w.heap.size w w.drew := ⟨rfl, rfl, rfl, Nat.le_refl _, fun _ _ => rfl⟩
/-- an item that was just built is appended, as one step of a region that draws -/
theorem step_appE {α : Type} (E : El α) {ops : Array Oper} {o : Oper} {a : Act} {Q : Exit → Act → World → Prop} {K : Act → World → Prop} {X : Prop} (hgd : o.guard = none) (s x : Operand) (t : TypeId) (htt : t = E.t)
    (ho : o.op = .call { callee := .builtin .append, args := #[s, x], argTypes := #[t, t] }) (N : Nat) (v : Value) (xs : List α) (y : α) (hbig : xs.length ≤ 1099511627775) {w : World} (W : World) (hs : a.eval s = v) (hown : OwnL E N W v xs)
    (hx : a.eval x = .slice (some ⟨w.heap.size, 0, none⟩) 1 1) (hN : N ≤ W.heap.size) (hW : W = w.alloc (Obj.cells (E.enc y).toArray E.e))
    (h : ∀ v' w', Hid (OwnL E N w' v' (xs ++ [y])) → Hid (W.grownBy w' v.ownBlock) → Hid (v'.ownBlock = v.ownBlock ∨ v'.ownBlock = some W.heap.size) → K (a.put o.dst v') w') :
    if Region.wanted o (yielded ops a.tmps) = true then Oper.wp Try.prog o a W K Q else X := by
  subst htt
  have hw : Region.wanted o (yielded ops a.tmps) = true := by simp [Region.wanted, hgd]
  rw [if_pos hw]
  obtain ⟨i0, hi, hz0, hz1, hz2⟩ := info_of E.hi
  have hnew : W.heap[w.heap.size]? = some (Obj.cells (E.enc y).toArray E.e) := by rw [hW]; exact World.alloc_heap_new w _
  have e1 : E.cs [y] = E.enc y := by simp [El.cs]
  obtain ⟨v', w', hr, h2, h3, h4, h5⟩ := run_append_own_at (P := Try.prog) W N E.t o.type E.e i0 E.z E.k E.bytes E.ht hi hz0 hz1 hz2 E.hz E.hk v xs.length (E.cs xs) hown.row ⟨w.heap.size, 0, none⟩ 1 1 (E.cs [y]) (cs_len E _) (by
    intro j u hj
    rw [e1] at hj
    rw [Addr.add_lit, Nat.zero_add]
    simp [World.cell?, hnew, hj]) (cs_one E _) (by unfold maxLen; omega) (Nat.le_trans (Nat.mul_le_mul_left _ E.hb) (by omega)) hN
  unfold Oper.wp execOp
  simp only [ho, resolve, invoke, builtin, Sem.run_bind, Sem.run_pure, Result.andThen_ok, List.map_toArray, List.map_cons, List.map_nil, hs, hx, hr]
  exact h v' w' ⟨by rw [cs_app, List.length_append]; exact h2⟩ h3 h5
/-- nothing old has turned but a block and what it owns -/
structure Kw (bw : Nat) (w : World) (own : Option Nat) (w' : World) (own' : Option Nat) : Prop where
  str : Below 0 w w'
  now : own' = own ∨ ∃ g, own' = some g ∧ w.heap.size ≤ g
  block : ∀ b, b < w.heap.size → b ≠ bw → some b ≠ own → w'.heap[b]? = w.heap[b]?
theorem Kw.refl (bw : Nat) (w : World) (own : Option Nat) : Kw bw w own w own := ⟨Below.refl _ _, .inl rfl, fun _ _ _ _ => rfl⟩
theorem Kw.ne {bw : Nat} {w w' : World} {own own' : Option Nat} (h : Kw bw w own w' own') {b : Nat} (hb : b < w.heap.size) (ho : some b ≠ own) : some b ≠ own' := by
  rcases h.now with e | ⟨g, e, hg⟩
  · rw [e]; exact ho
  · rw [e]; intro e2; cases e2; omega
theorem Kw.trans {bw : Nat} {w w1 w2 : World} {o o1 o2 : Option Nat} (h : Kw bw w o w1 o1) (k : Kw bw w1 o1 w2 o2) : Kw bw w o w2 o2 := by
  refine ⟨h.str.trans k.str, ?_, fun b hb hn ho => (k.block b (Nat.lt_of_lt_of_le hb h.str.size) hn (h.ne hb ho)).trans (h.block b hb hn ho)⟩
  rcases k.now with e | ⟨g, e, hg⟩
  · rw [e]; exact h.now
  · exact .inr ⟨g, e, Nat.le_trans h.str.size hg⟩
theorem Kw.bel {bw : Nat} {w w' : World} {own : Option Nat} (h : Below w.heap.size w w') : Kw bw w own w' own := ⟨h.mono (Nat.zero_le _), .inl rfl, fun b hb _ _ => h.block b hb⟩
/-- a machine at a block -/
structure Mc (N : Nat) (w : World) (bm : Nat) (S : List St) (own : Option Nat) : Prop where
  box : ∃ v, w.heap[bm]? = some (Obj.cells #[v, .int .i64 0] 42) ∧ OwnL ET N w v S ∧ v.ownBlock = own
  ne : ¬ own = some bm
  lo : N ≤ bm
theorem Mc.lt {N : Nat} {w : World} {bm : Nat} {S : List St} {own : Option Nat} (h : Mc N w bm S own) : bm < w.heap.size := by
  obtain ⟨v, h1, -⟩ := h.box
  exact (Array.getElem?_eq_some_iff.1 h1).1
theorem Mc.olt {N : Nat} {w : World} {bm : Nat} {S : List St} {own : Option Nat} (h : Mc N w bm S own) : ∀ g, own = some g → N ≤ g ∧ g < w.heap.size := fun g e => by
  obtain ⟨v, h1, h2, h3⟩ := h.box
  exact h2.row.lt g (by rw [h3]; exact e)
theorem Mc.bel {N : Nat} {w w' : World} {bm : Nat} {S : List St} {own : Option Nat} (h : Mc N w bm S own) (hb : Below w.heap.size w w') : Mc N w' bm S own := by
  have hl := h.lt
  obtain ⟨v, h1, h2, h3⟩ := h.box
  exact ⟨⟨v, (hb.block bm hl).trans h1, h2.bel hb, h3⟩, h.ne, h.lo⟩
/-- nothing below N has turned -/
theorem Mc.under {N : Nat} {w w' : World} {bm : Nat} {S : List St} {own own' : Option Nat} (h : Mc N w bm S own) (k : Kw bm w own w' own') : Below N w w' := by
  have hlt := h.lt
  have hlo := h.lo
  have hb := k.str
  exact ⟨hb.1, hb.2, hb.3, hb.4, fun b hb => k.block b (by omega) (by omega) (fun e => by have := (h.olt b e.symm).1; omega)⟩
/-- one item more behind what a box's first cell holds -/
theorem mc_next {N bm : Nat} {w W w' : World} {S : List St} {own : Option Nat} {v v' : Value} {q : St} (h : Mc N w bm S own) (hv : w.heap[bm]? = some (Obj.cells #[v, .int .i64 0] 42)) (hW : Below w.heap.size w W) (ho : OwnL ET N w' v' (S ++ [q])) (hg : W.grownBy w' v.ownBlock) (hat : v'.ownBlock = v.ownBlock ∨ v'.ownBlock = some W.heap.size) :
    w'.heap[bm]? = some (Obj.cells #[v, .int .i64 0] 42) ∧ Mc N (w'.setCell ⟨bm, 0, none⟩ v') bm (S ++ [q]) v'.ownBlock ∧ Kw bm w own (w'.setCell ⟨bm, 0, none⟩ v') v'.ownBlock := by
  have hlt := h.lt
  have hsz := hW.size
  obtain ⟨v0, e0, h0, h3⟩ := h.box
  rw [hv] at e0
  cases e0
  have hne := h.ne
  have h1 : w'.heap[bm]? = some (Obj.cells #[v, .int .i64 0] 42) := (hg.block bm (by omega) (fun e => hne (by rw [← h3]; exact e.symm))).trans ((hW.block bm hlt).trans hv)
  have hne' : ¬ v'.ownBlock = some bm := fun e => by
    rcases hat with e2 | e2
    · exact hne (by rw [← h3, ← e2]; exact e)
    · rw [e2] at e; cases e; omega
  refine ⟨h1, ⟨⟨v', by rw [box_set h1]; rfl, ho.blk (fun g e => Below.heap_setCell w' ⟨bm, 0, none⟩ v' g (fun e2 => hne' (by have e3 : g = bm := e2; rw [← e3]; exact e))), rfl⟩, hne', h.lo⟩, ?_, ?_, fun b hb hn hno => (Below.heap_setCell w' ⟨bm, 0, none⟩ v' b hn).trans ((hg.block b (by omega) (fun e => hno (by rw [← h3]; exact e))).trans (hW.block b hb))⟩
  · exact ((hW.mono (Nat.zero_le _)).grown hg (Nat.zero_le _) (fun _ _ => Nat.zero_le _)).setCell (p := ⟨bm, 0, none⟩) (Nat.zero_le _) v'
  · rcases hat with e | e
    · exact .inl (by rw [e, h3])
    · exact .inr ⟨_, e, hsz⟩
set_option maxRecDepth 100000 in
set_option maxHeartbeats 4000000 in
theorem add_any (N bm : Nat) (S : List St) (q : St) (own : Option Nat) (hbig : S.length ≤ 1099511627775) (w : World) (h : Mc N w bm S own) :
    Calls Try.prog 19 #[.pointer (some ⟨bm, 0, none⟩), .agg #[.int .i64 q.k, .int .i64 q.n, .int .i64 q.t, .int .i64 q.o]] w fun e w' => e = .returned (.int .i64 (S.length : Int)) ∧ ∃ own', Mc N w' bm (S ++ [q]) own' ∧ Kw bm w own w' own' := by
  have H : Hid (Mc N w bm S own) := h
  obtain ⟨v, hv, hO, hov⟩ := h.box
  obtain ⟨a, c, rfl, -⟩ := hO.form
  obtain ⟨k, n, t, o⟩ := q
  dsimp only
  have hlt := h.lt
  clear h
  obtain ⟨w1, hw1⟩ : ∃ w1, w.alloc (Obj.cells #[.int .i64 k, .int .i64 n, .int .i64 t, .int .i64 o] 39) = w1 := ⟨_, rfl⟩
  have hb1 : Below w.heap.size w w1 := by rw [← hw1]; exact (Below.refl _ w).alloc (Nat.le_refl _) _
  have hx1 : w1.heap[w.heap.size]? = some (Obj.cells #[.int .i64 k, .int .i64 n, .int .i64 t, .int .i64 o] 39) := by rw [← hw1]; exact World.alloc_heap_new w _
  have hs1 : w1.heap.size = w.heap.size + 1 := by rw [← hw1]; simp
  obtain ⟨w2, hw2⟩ : ∃ w2, w1.drew.alloc (Obj.cells #[.int .i64 k, .int .i64 n, .int .i64 t, .int .i64 o] 39) = w2 := ⟨_, rfl⟩
  have HW2 : Hid (w2 = w1.drew.alloc (Obj.cells (ET.enc ⟨k, n, t, o⟩).toArray ET.e)) := hw2.symm
  have hb2 : Below w.heap.size w w2 := by rw [← hw2]; exact (hb1.trans ((drewB w1).mono hb1.size)).alloc (show w.heap.size ≤ w1.heap.size by omega) _
  have HB2 : Hid (Below w.heap.size w w2) := hb2
  have HO2 : Hid (OwnL ET N w2 (.slice a S.length c) S) := hO.bel hb2
  have hN2 : N ≤ w2.heap.size := by have h1 := H.out.lo; have h2 := hb2.size; omega
  obtain ⟨sb, hsb⟩ : ∃ s, w.heap.size = s := ⟨_, rfl⟩
  have hvd : w1.drew.heap[bm]? = some (Obj.cells #[.slice a S.length c, .int .i64 0] 42) := (hb1.block bm hlt).trans hv
  have hv2 : w2.heap[bm]? = some (Obj.cells #[.slice a S.length c, .int .i64 0] 42) := (hb2.block bm hlt).trans hv
  have c0 : w1.drew.cell? ⟨bm, 0, none⟩ = some (.slice a S.length c) := (box_at hvd).1
  have d0 : w2.cell? ⟨bm, 0, none⟩ = some (.slice a S.length c) := (box_at hv2).1
  have hx1' : w1.drew.heap[sb]? = some (Obj.cells #[.int .i64 k, .int .i64 n, .int .i64 t, .int .i64 o] 39) := by rw [← hsb]; exact hx1
  have x0 : w1.drew.cell? ⟨sb, 0, none⟩ = some (.int .i64 k) := (box_at hx1').1
  have x1 : w1.drew.cell? ⟨sb, 1, none⟩ = some (.int .i64 n) := (box_at hx1').1
  have x2 : w1.drew.cell? ⟨sb, 2, none⟩ = some (.int .i64 t) := (box_at hx1').1
  have x3 : w1.drew.cell? ⟨sb, 3, none⟩ = some (.int .i64 o) := (box_at hx1').1
  have HNX : Hid (∀ v' w', OwnL ET N w' v' (S ++ [⟨k, n, t, o⟩]) → w2.grownBy w' (Value.slice a S.length c).ownBlock → (v'.ownBlock = (Value.slice a S.length c).ownBlock ∨ v'.ownBlock = some w2.heap.size) → w'.heap[bm]? = some (Obj.cells #[.slice a S.length c, .int .i64 0] 42) ∧ Mc N (w'.setCell ⟨bm, 0, none⟩ v') bm (S ++ [⟨k, n, t, o⟩]) v'.ownBlock ∧ Kw bm w own (w'.setCell ⟨bm, 0, none⟩ v') v'.ownBlock) := fun v' w' ho hg hat => mc_next H.out hv hb2 ho hg hat
  obtain ⟨L1, hL1⟩ : ∃ L1, (S ++ [St.mk k n t o]).length = L1 := ⟨_, rfl⟩
  have HL1 : Hid ((S ++ [St.mk k n t o]).length = L1) := hL1
  have HL2 : Hid ((L1 : Int) - 1 = (S.length : Int)) := by show _ = _; rw [← hL1]; simp
  have hl63 : L1 ≤ 1099511627776 := by rw [← hL1]; simp; omega
  have hl0 : 1 ≤ L1 := by rw [← hL1]; simp
  clear hL1
  clear hb1 hb2 hx1 hx1' hvd hv2 hv hO hov
  go_enter Try.func19, Try.ntmps19
  go_wp2_with fail
  refine wp_region_held_drew (S := fun _ => True) (by kernel_rfl) trivial (fun hHeld => ?_)
  obtain ⟨wD, hwD⟩ : ∃ wD, w1.drew = wD := ⟨_, rfl⟩
  rw [hwD] at c0 x0 x1 x2 x3 hw2 HW2 ⊢
  clear hwD
  refine wpAnyH_take (i := 0) (v := ?_) rfl (by kernel_rfl) (by kernel_rfl) (by kernel_rfl) (fun _ _ _ h => h) (Or.inl ⟨by rfl, ?_⟩) (by assumption) ?_
  case refine_2 => intro W hSw; go_simp; try rfl
  try simp only [Act.put, List.getElem_toArray, List.getElem_cons_zero, List.setIfInBounds_toArray, List.set_cons_zero, List.set_cons_succ]
  refine wpAnyH_take (i := 1) (v := ?_) rfl (by kernel_rfl) (by kernel_rfl) (by kernel_rfl) (fun _ _ _ h => h) (Or.inl ⟨by rfl, ?_⟩) (by assumption) ?_
  case refine_2 => intro W hSw; go_simp; try rfl
  try simp only [Act.put, List.getElem_toArray, List.getElem_cons_zero, List.getElem_cons_succ, List.setIfInBounds_toArray, List.set_cons_zero, List.set_cons_succ]
  refine wpAnyH_take (i := 2) (v := ?_) rfl (by kernel_rfl) (by kernel_rfl) (by kernel_rfl) (fun _ _ _ h => h) (Or.inl ⟨by rfl, ?_⟩) (by assumption) ?_
  case refine_2 => intro W hSw; go_simp; try rfl
  try simp only [Act.put, List.getElem_toArray, List.getElem_cons_zero, List.getElem_cons_succ, List.setIfInBounds_toArray, List.set_cons_zero, List.set_cons_succ]
  refine wpAnyH_take (i := 3) (v := ?_) rfl (by kernel_rfl) (by kernel_rfl) (by kernel_rfl) (fun _ _ _ h => h) (Or.inl ⟨by rfl, ?_⟩) (by assumption) ?_
  case refine_2 => intro W hSw; go_simp; try rfl
  try simp only [Act.put, List.getElem_toArray, List.getElem_cons_zero, List.getElem_cons_succ, List.setIfInBounds_toArray, List.set_cons_zero, List.set_cons_succ]
  refine wpAnyH_ready (rs := [4, 5]) (by kernel_rfl) (by simp) ?_
  refine AllReadyH.cons rfl (fun K hK => ?_) (AllReadyH.cons rfl (fun K hK => ?_) (AllReadyH.nil))
  · go_simp
    refine hK.out _ _ trivial (fun hHeld => ?_)
    clear hK K
    try simp only [Act.put, List.getElem_toArray, List.getElem_cons_zero, List.getElem_cons_succ, List.setIfInBounds_toArray, List.set_cons_zero, List.set_cons_succ]
    refine wpAnyH_ready (rs := [5]) (by kernel_rfl) (by simp) ?_
    refine AllReadyH.cons rfl (fun K hK => ?_) (AllReadyH.nil)
    go_simp
    refine hK.out _ _ trivial (fun hHeld => ?_)
    clear hK K
    try simp only [Act.put, List.getElem_toArray, List.getElem_cons_zero, List.getElem_cons_succ, List.setIfInBounds_toArray, List.set_cons_zero, List.set_cons_succ]
    refine wpAnyH_ready (rs := [6]) (by kernel_rfl) (by simp) ?_
    refine AllReadyH.cons rfl (fun K hK => ?_) (AllReadyH.nil)
    go_simp
    refine hK.out _ _ trivial (fun hHeld => ?_)
    clear hK K
    try simp only [Act.put, List.getElem_toArray, List.getElem_cons_zero, List.getElem_cons_succ, List.setIfInBounds_toArray, List.set_cons_zero, List.set_cons_succ]
    try rw [hw2]
    refine wpAnyH_ready (rs := [7]) (by kernel_rfl) (by simp) ?_
    refine AllReadyH.cons rfl (fun K hK => ?_) (AllReadyH.nil)
    refine step_appE ET rfl _ _ 40 rfl rfl N (.slice a S.length c) S ⟨k, n, t, o⟩ hbig (w := wD) w2 rfl HO2.out rfl hN2 HW2.out ?_
    intro v' w' ho' hg' hat'
    obtain ⟨f1, f2, f3⟩ := HNX.out v' w' ho'.out hg'.out hat'.out
    obtain ⟨va', vc', rfl, -⟩ := ho'.out.form
    rw [HL1.out]
    rw [HL1.out] at f2 f3
    have F2 : Hid _ := f2
    have F3 : Hid _ := f3
    have e0 : w'.cell? ⟨bm, 0, none⟩ = some (.slice a S.length c) := (box_at f1).1
    have z0 : w'.frozen? ⟨bm, 0, none⟩ = false := (box_at f1 (i := 0)).2
    have g0 : (w'.setCell ⟨bm, 0, none⟩ (.slice va' L1 vc')).cell? ⟨bm, 0, none⟩ = some (.slice va' L1 vc') := (box_at (box_set f1 _)).1
    clear f1 f2 f3 ho' hg' hat' hHeld
    refine hK.out _ _ trivial (fun hHeld => ?_)
    clear hK K
    try simp only [Act.put, List.getElem_toArray, List.getElem_cons_zero, List.getElem_cons_succ, List.setIfInBounds_toArray, List.set_cons_zero, List.set_cons_succ]
    refine wpAnyH_take (i := 8) (v := ?_) rfl (by kernel_rfl) (by kernel_rfl) (by kernel_rfl) (fun _ _ _ h => h) (Or.inl ⟨by rfl, ?_⟩) (by assumption) ?_
    case refine_2 => intro W hSw; go_simp; try rfl
    try simp only [Act.put, List.getElem_toArray, List.getElem_cons_zero, List.getElem_cons_succ, List.setIfInBounds_toArray, List.set_cons_zero, List.set_cons_succ]
    refine wpAnyH_take (i := 9) (v := ?_) rfl (by kernel_rfl) (by kernel_rfl) (by kernel_rfl) (fun _ _ _ h => h) (Or.inl ⟨by rfl, ?_⟩) (by assumption) ?_
    case refine_2 => intro W hSw; go_simp; try rfl
    try simp only [Act.put, List.getElem_toArray, List.getElem_cons_zero, List.getElem_cons_succ, List.setIfInBounds_toArray, List.set_cons_zero, List.set_cons_succ]
    refine wpAnyH_ready (rs := [10]) (by kernel_rfl) (by simp) ?_
    refine AllReadyH.cons rfl (fun K hK => ?_) (AllReadyH.nil)
    go_simp
    refine hK.out _ _ trivial (fun hHeld => ?_)
    clear hK K
    try simp only [Act.put, List.getElem_toArray, List.getElem_cons_zero, List.getElem_cons_succ, List.setIfInBounds_toArray, List.set_cons_zero, List.set_cons_succ]
    refine wpAnyH_done (by kernel_rfl) ?_ _
    go_wp2_with fail
    go_ret
    exact ⟨congrArg (fun x => Ending.returned (Value.int .i64 x)) HL2.out, _, F2.out, F3.out⟩
  · go_simp
    refine hK.out _ _ trivial (fun hHeld => ?_)
    clear hK K
    try simp only [Act.put, List.getElem_toArray, List.getElem_cons_zero, List.getElem_cons_succ, List.setIfInBounds_toArray, List.set_cons_zero, List.set_cons_succ]
    refine wpAnyH_ready (rs := [4, 6]) (by kernel_rfl) (by simp) ?_
    refine AllReadyH.cons rfl (fun K hK => ?_) (AllReadyH.cons rfl (fun K hK => ?_) (AllReadyH.nil))
    · go_simp
      refine hK.out _ _ trivial (fun hHeld => ?_)
      clear hK K
      try simp only [Act.put, List.getElem_toArray, List.getElem_cons_zero, List.getElem_cons_succ, List.setIfInBounds_toArray, List.set_cons_zero, List.set_cons_succ]
      refine wpAnyH_ready (rs := [6]) (by kernel_rfl) (by simp) ?_
      refine AllReadyH.cons rfl (fun K hK => ?_) (AllReadyH.nil)
      go_simp
      refine hK.out _ _ trivial (fun hHeld => ?_)
      clear hK K
      try simp only [Act.put, List.getElem_toArray, List.getElem_cons_zero, List.getElem_cons_succ, List.setIfInBounds_toArray, List.set_cons_zero, List.set_cons_succ]
      try rw [hw2]
      refine wpAnyH_ready (rs := [7]) (by kernel_rfl) (by simp) ?_
      refine AllReadyH.cons rfl (fun K hK => ?_) (AllReadyH.nil)
      refine step_appE ET rfl _ _ 40 rfl rfl N (.slice a S.length c) S ⟨k, n, t, o⟩ hbig (w := wD) w2 rfl HO2.out rfl hN2 HW2.out ?_
      intro v' w' ho' hg' hat'
      obtain ⟨f1, f2, f3⟩ := HNX.out v' w' ho'.out hg'.out hat'.out
      obtain ⟨va', vc', rfl, -⟩ := ho'.out.form
      rw [HL1.out]
      rw [HL1.out] at f2 f3
      have F2 : Hid _ := f2
      have F3 : Hid _ := f3
      have e0 : w'.cell? ⟨bm, 0, none⟩ = some (.slice a S.length c) := (box_at f1).1
      have z0 : w'.frozen? ⟨bm, 0, none⟩ = false := (box_at f1 (i := 0)).2
      have g0 : (w'.setCell ⟨bm, 0, none⟩ (.slice va' L1 vc')).cell? ⟨bm, 0, none⟩ = some (.slice va' L1 vc') := (box_at (box_set f1 _)).1
      clear f1 f2 f3 ho' hg' hat' hHeld
      refine hK.out _ _ trivial (fun hHeld => ?_)
      clear hK K
      try simp only [Act.put, List.getElem_toArray, List.getElem_cons_zero, List.getElem_cons_succ, List.setIfInBounds_toArray, List.set_cons_zero, List.set_cons_succ]
      refine wpAnyH_take (i := 8) (v := ?_) rfl (by kernel_rfl) (by kernel_rfl) (by kernel_rfl) (fun _ _ _ h => h) (Or.inl ⟨by rfl, ?_⟩) (by assumption) ?_
      case refine_2 => intro W hSw; go_simp; try rfl
      try simp only [Act.put, List.getElem_toArray, List.getElem_cons_zero, List.getElem_cons_succ, List.setIfInBounds_toArray, List.set_cons_zero, List.set_cons_succ]
      refine wpAnyH_take (i := 9) (v := ?_) rfl (by kernel_rfl) (by kernel_rfl) (by kernel_rfl) (fun _ _ _ h => h) (Or.inl ⟨by rfl, ?_⟩) (by assumption) ?_
      case refine_2 => intro W hSw; go_simp; try rfl
      try simp only [Act.put, List.getElem_toArray, List.getElem_cons_zero, List.getElem_cons_succ, List.setIfInBounds_toArray, List.set_cons_zero, List.set_cons_succ]
      refine wpAnyH_ready (rs := [10]) (by kernel_rfl) (by simp) ?_
      refine AllReadyH.cons rfl (fun K hK => ?_) (AllReadyH.nil)
      go_simp
      refine hK.out _ _ trivial (fun hHeld => ?_)
      clear hK K
      try simp only [Act.put, List.getElem_toArray, List.getElem_cons_zero, List.getElem_cons_succ, List.setIfInBounds_toArray, List.set_cons_zero, List.set_cons_succ]
      refine wpAnyH_done (by kernel_rfl) ?_ _
      go_wp2_with fail
      go_ret
      exact ⟨congrArg (fun x => Ending.returned (Value.int .i64 x)) HL2.out, _, F2.out, F3.out⟩
    · go_simp
      refine hK.out _ _ trivial (fun hHeld => ?_)
      clear hK K
      try simp only [Act.put, List.getElem_toArray, List.getElem_cons_zero, List.getElem_cons_succ, List.setIfInBounds_toArray, List.set_cons_zero, List.set_cons_succ]
      try rw [hw2]
      refine wpAnyH_ready (rs := [4]) (by kernel_rfl) (by simp) ?_
      refine AllReadyH.cons rfl (fun K hK => ?_) (AllReadyH.nil)
      go_simp
      refine hK.out _ _ trivial (fun hHeld => ?_)
      clear hK K
      try simp only [Act.put, List.getElem_toArray, List.getElem_cons_zero, List.getElem_cons_succ, List.setIfInBounds_toArray, List.set_cons_zero, List.set_cons_succ]
      refine wpAnyH_ready (rs := [7]) (by kernel_rfl) (by simp) ?_
      refine AllReadyH.cons rfl (fun K hK => ?_) (AllReadyH.nil)
      refine step_appE ET rfl _ _ 40 rfl rfl N (.slice a S.length c) S ⟨k, n, t, o⟩ hbig (w := wD) w2 rfl HO2.out rfl hN2 HW2.out ?_
      intro v' w' ho' hg' hat'
      obtain ⟨f1, f2, f3⟩ := HNX.out v' w' ho'.out hg'.out hat'.out
      obtain ⟨va', vc', rfl, -⟩ := ho'.out.form
      rw [HL1.out]
      rw [HL1.out] at f2 f3
      have F2 : Hid _ := f2
      have F3 : Hid _ := f3
      have e0 : w'.cell? ⟨bm, 0, none⟩ = some (.slice a S.length c) := (box_at f1).1
      have z0 : w'.frozen? ⟨bm, 0, none⟩ = false := (box_at f1 (i := 0)).2
      have g0 : (w'.setCell ⟨bm, 0, none⟩ (.slice va' L1 vc')).cell? ⟨bm, 0, none⟩ = some (.slice va' L1 vc') := (box_at (box_set f1 _)).1
      clear f1 f2 f3 ho' hg' hat' hHeld
      refine hK.out _ _ trivial (fun hHeld => ?_)
      clear hK K
      try simp only [Act.put, List.getElem_toArray, List.getElem_cons_zero, List.getElem_cons_succ, List.setIfInBounds_toArray, List.set_cons_zero, List.set_cons_succ]
      refine wpAnyH_take (i := 8) (v := ?_) rfl (by kernel_rfl) (by kernel_rfl) (by kernel_rfl) (fun _ _ _ h => h) (Or.inl ⟨by rfl, ?_⟩) (by assumption) ?_
      case refine_2 => intro W hSw; go_simp; try rfl
      try simp only [Act.put, List.getElem_toArray, List.getElem_cons_zero, List.getElem_cons_succ, List.setIfInBounds_toArray, List.set_cons_zero, List.set_cons_succ]
      refine wpAnyH_take (i := 9) (v := ?_) rfl (by kernel_rfl) (by kernel_rfl) (by kernel_rfl) (fun _ _ _ h => h) (Or.inl ⟨by rfl, ?_⟩) (by assumption) ?_
      case refine_2 => intro W hSw; go_simp; try rfl
      try simp only [Act.put, List.getElem_toArray, List.getElem_cons_zero, List.getElem_cons_succ, List.setIfInBounds_toArray, List.set_cons_zero, List.set_cons_succ]
      refine wpAnyH_ready (rs := [10]) (by kernel_rfl) (by simp) ?_
      refine AllReadyH.cons rfl (fun K hK => ?_) (AllReadyH.nil)
      go_simp
      refine hK.out _ _ trivial (fun hHeld => ?_)
      clear hK K
      try simp only [Act.put, List.getElem_toArray, List.getElem_cons_zero, List.getElem_cons_succ, List.setIfInBounds_toArray, List.set_cons_zero, List.set_cons_succ]
      refine wpAnyH_done (by kernel_rfl) ?_ _
      go_wp2_with fail
      go_ret
      exact ⟨congrArg (fun x => Ending.returned (Value.int .i64 x)) HL2.out, _, F2.out, F3.out⟩
set_option maxRecDepth 100000 in
set_option maxHeartbeats 4000000 in
theorem fork_any (N bm : Nat) (S : List St) (t o : Int) (own : Option Nat) (hbig : S.length ≤ 1099511627775) (w : World) (h : Mc N w bm S own) :
    Calls Try.prog 20 #[.pointer (some ⟨bm, 0, none⟩), .int .i64 t, .int .i64 o] w fun e w' => e = .returned (.int .i64 (S.length : Int)) ∧ ∃ own', Mc N w' bm (S ++ [⟨4, 0, t, o⟩]) own' ∧ Kw bm w own w' own' := by
  have HC := add_any N bm S ⟨4, 0, t, o⟩ own hbig w h
  go_enter Try.func20, Try.ntmps20
  go_wp2_with fail
  refine HC.mono ?_
  rintro e w1 ⟨rfl, own', h1, h2⟩
  have H1 : Hid _ := h1
  have H2 : Hid _ := h2
  clear h1 h2 HC h
  go_wp2_with fail
  go_ret
  exact ⟨rfl, own', H1.out, H2.out⟩
end Go.Proofs.Ytagfdmkgnedlbag.Po
