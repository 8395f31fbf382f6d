/- Whole structs in memory: loaded, stored, boxed. Appends in regions that draw; parts of slices of bytes. Sessions: how one end stands, and what a call answers: plain, and in memory. -/
import Derived.Test.YtanboekdfdafmaaGeA
import Derived.Deep.MidRow
import Derived.Laws.CopyOwn
import Derived.Laws.OwnMore
import Derived.Test.YtanboekdfdafmaaMgE
import Derived.Test.YtanboekdfdafmaaMgB
namespace Go.Proofs.Ytanboekdfdafmaa.Ge
open Go.ChangeShapes Go.WideShapes Go.ChangeAt Go.RowKit Go.Joins Go.Deep
set_option linter.unusedVariables false

/-- a kind of struct -/
structure Sk where
  t : TypeId
  k : Nat
  d : TypeDesc
  hu : Try.prog.underlying t = some d
  hd : d.isRow = true
  hi : (Try.prog.info? t).map (·.size) = some k
/-- a block that holds one -/
def SB (T : Sk) (b : Nat) (cs : List Value) (w : World) : Prop := w.heap[b]? = some (Obj.cells cs.toArray T.t)
/-- nothing but one block has turned -/
structure Ko (w : World) (b : Nat) (w' : World) : Prop where
  str : Below 0 w w'
  size : w'.heap.size = w.heap.size
  block : ∀ g, g ≠ b → w'.heap[g]? = w.heap[g]?
theorem Ko.refl (w : World) (b : Nat) : Ko w b w := ⟨Below.refl _ _, rfl, fun _ _ => rfl⟩
theorem Ko.trans {w w1 w2 : World} {b : Nat} (h : Ko w b w1) (k : Ko w1 b w2) : Ko w b w2 := ⟨h.str.trans k.str, k.size.trans h.size, fun g hg => (k.block g hg).trans (h.block g hg)⟩
theorem Ko.below {w w1 : World} {b N : Nat} (h : Ko w b w1) (hN : N ≤ b) : Below N w w1 := ⟨h.str.os, h.str.tape, h.str.output, h.str.size, fun k hk => h.block k (by omega)⟩
theorem SB.lt {T : Sk} {b : Nat} {cs : List Value} {w : World} (h : SB T b cs w) : b < w.heap.size := (Array.getElem?_eq_some_iff.1 h).1
theorem SB.cell {T : Sk} {b : Nat} {cs : List Value} {w : World} (h : SB T b cs w) (i : Nat) : w.cell? ⟨b, i, none⟩ = cs[i]? := by unfold World.cell?; rw [h]; simp
theorem SB.fro {T : Sk} {b : Nat} {cs : List Value} {w : World} (h : SB T b cs w) (i : Nat) : w.frozen? ⟨b, i, none⟩ = false := by unfold World.frozen?; rw [h]; simp
theorem SB.blk {T : Sk} {b : Nat} {cs : List Value} {w w' : World} (h : SB T b cs w) (hb : w'.heap[b]? = w.heap[b]?) : SB T b cs w' := hb.trans h
theorem SB.set {T : Sk} {b : Nat} {cs cs' : List Value} {w : World} (h : SB T b cs w) (i : Nat) (v : Value) (he : cs.set i v = cs') : SB T b cs' (w.setCell ⟨b, i, none⟩ v) := by
  unfold SB
  rw [heap_setCell_same w b i _ _ v h, ← he]
  simp
theorem Ko.set (w : World) (b i : Nat) (v : Value) : Ko w b (w.setCell ⟨b, i, none⟩ v) := ⟨(Below.refl _ w).setCell (p := ⟨b, i, none⟩) (Nat.zero_le _) v, by simp, fun g hg => Below.heap_setCell w ⟨b, i, none⟩ _ g hg⟩
theorem SB.made (T : Sk) {w W : World} {cs : List Value} (h : w.alloc (Obj.cells cs.toArray T.t) = W) : SB T w.heap.size cs W ∧ Below w.heap.size w W := by
  subst h
  exact ⟨World.alloc_heap_new w _, (Below.refl _ _).alloc (Nat.le_refl _) _⟩
theorem heap_setRow (w : World) (g : Nat) (old cs : Array Value) (t : TypeId) (h : w.heap[g]? = some (Obj.cells old t)) : (w.setRow g cs).heap[g]? = some (Obj.cells cs t) := by
  obtain ⟨hl, e⟩ := Array.getElem?_eq_some_iff.1 h
  simp [World.setRow, hl, Array.getElem_modify, e]
theorem Ko.row (w : World) (g : Nat) (cs : Array Value) : Ko w g (w.setRow g cs) :=
  ⟨below_setRow (Below.refl _ w) (Nat.zero_le _) cs, by simp [World.setRow], fun k hk => setRow_other w g k cs hk⟩
theorem sload_run {o : Oper} {ρ : Operand → Value} {W : World} (T : Sk) (x : Operand) (ho : o.op = .load T.t x) {b : Nat} {cs : List Value} (hx : ρ x = .pointer (some ⟨b, 0, none⟩)) (h : SB T b cs W) (hl : cs.length = T.k) : (execOp ρ o).run Try.prog W = .ok (.value (.agg cs.toArray)) W := by
  unfold execOp
  have hr : W.rangeAt b 0 cs := fun j v hv => by rw [Nat.zero_add, h.cell]; exact hv
  simp only [ho, hx, Instr.loadAt, Instr.sureAddr, Sem.run_bind, Sem.run_pure, Result.andThen_ok, run_loadVar_mid W b 0 T.t cs T.d hr T.hu T.hd (by rw [T.hi, hl])]
/-- a struct is loaded -/
theorem list_sload {ops : Array Oper} {rest : List Oper} {o : Oper} {ac : Act} {Q : Exit → Act → World → Prop} {W : World} (T : Sk) (hgd : o.guard = none) (x : Operand) (ho : o.op = .load T.t x) {b : Nat} {cs : List Value} (hx : ac.eval x = .pointer (some ⟨b, 0, none⟩)) (h : SB T b cs W) (hl : cs.length = T.k)
    (k : wpList Try.prog ops Q rest (ac.put o.dst (.agg cs.toArray)) W) : wpList Try.prog ops Q (o :: rest) ac W := by
  refine wpList_plain hgd fun K hK => ?_
  unfold Oper.wp
  rw [sload_run T x ho hx h hl]
  exact hK _ _ k
theorem sstore_run {o : Oper} {ρ : Operand → Value} {W : World} (T : Sk) (x y : Operand) (ho : o.op = .store T.t x y) {b : Nat} {cs cs' : List Value} (hx : ρ x = .pointer (some ⟨b, 0, none⟩)) (hy : ρ y = .agg cs'.toArray) (h : SB T b cs W) (hl : cs.length = T.k) (hl' : cs'.length = T.k) (h1 : cs'.all (·.oneCell') = true) : (execOp ρ o).run Try.prog W = .ok .skip (W.setRow b cs'.toArray) := by
  unfold execOp
  have ha : cs'.toArray.all (·.oneCell') = true := by simpa using h1
  simp only [ho, hx, hy, Instr.storeAt, Instr.sureAddr, Sem.run_bind, Sem.run_pure, Result.andThen_ok, run_storeVar_row W b T.t T.t cs.toArray cs'.toArray h (by rw [T.hi]; simp [hl']) (by simp [hl, hl']) ha]
/-- a struct is stored -/
theorem list_sstore {ops : Array Oper} {rest : List Oper} {o : Oper} {ac : Act} {Q : Exit → Act → World → Prop} {W : World} (T : Sk) (hgd : o.guard = none) (x y : Operand) (ho : o.op = .store T.t x y) {b : Nat} {cs cs' : List Value} (hx : ac.eval x = .pointer (some ⟨b, 0, none⟩)) (hy : ac.eval y = .agg cs'.toArray) (h : SB T b cs W) (hl : cs.length = T.k) (hl' : cs'.length = T.k) (h1 : cs'.all (·.oneCell') = true)
    (k : ∀ W', Hid (SB T b cs' W') → Hid (Ko W b W') → wpList Try.prog ops Q rest (ac.put o.dst undef) W') : wpList Try.prog ops Q (o :: rest) ac W := by
  refine wpList_plain hgd fun K hK => ?_
  unfold Oper.wp
  rw [sstore_run T x y ho hx hy h hl hl' h1]
  exact hK _ _ (k _ (heap_setRow W b _ _ _ h) (Ko.row W b _))
theorem sbox_run {o : Oper} {ρ : Operand → Value} {W : World} (T : Sk) (x : Operand) (ho : o.op = .box T.t x) {cs : List Value} (hx : ρ x = .agg cs.toArray) : (execOp ρ o).run Try.prog W = .ok (.value (.pointer (some ⟨W.heap.size, 0, none⟩))) (W.alloc (Obj.cells cs.toArray T.t)) := by
  unfold execOp
  rw [ho]
  simp [go_sem, hx]
/-- a struct is boxed -/
theorem list_sbox {ops : Array Oper} {rest : List Oper} {o : Oper} {ac : Act} {Q : Exit → Act → World → Prop} {W : World} (T : Sk) (hgd : o.guard = none) (x : Operand) (ho : o.op = .box T.t x) {cs : List Value} (hx : ac.eval x = .agg cs.toArray)
    (k : ∀ W', Hid (SB T W.heap.size cs W') → Hid (Below W.heap.size W W') → W'.heap.size = W.heap.size + 1 → wpList Try.prog ops Q rest (ac.put o.dst (.pointer (some ⟨W.heap.size, 0, none⟩))) W') : wpList Try.prog ops Q (o :: rest) ac W := by
  refine wpList_plain hgd fun K hK => ?_
  unfold Oper.wp
  rw [sbox_run T x ho hx]
  exact hK _ _ (k _ (World.alloc_heap_new W _) ((Below.refl _ W).alloc (Nat.le_refl _) _) (by simp))
/-- one operation of a region that draws -/
theorem step_run {P : Program} {o : Oper} {a : Act} {w w' : World} {K : Act → World → Prop} {Q : Exit → Act → World → Prop} {v : Value} {c : Bool} {E : Prop} (hc : c = true) (h : (execOp a.eval o).run P w = .ok (.value v) w') (hk : K (a.put o.dst v) w') : if c = true then Oper.wp P o a w K Q else E := by
  rw [if_pos hc]; unfold Oper.wp; rw [h]; exact hk
theorem step_runs {P : Program} {o : Oper} {a : Act} {w w' : World} {K : Act → World → Prop} {Q : Exit → Act → World → Prop} {c : Bool} {E : Prop} (hc : c = true) (h : (execOp a.eval o).run P w = .ok .skip w') (hk : K (a.put o.dst undef) w') : if c = true then Oper.wp P o a w K Q else E := by
  rw [if_pos hc]; unfold Oper.wp; rw [h]; exact hk
theorem sstore_step {o : Oper} {a : Act} {W : World} {K : Act → World → Prop} {Q : Exit → Act → World → Prop} {c : Bool} {E : Prop} (T : Sk) (x y : Operand) (ho : o.op = .store T.t x y) {b : Nat} {cs cs' : List Value} (hx : a.eval x = .pointer (some ⟨b, 0, none⟩)) (hy : a.eval y = .agg cs'.toArray) (h : SB T b cs W) (hl : cs.length = T.k) (hl' : cs'.length = T.k) (h1 : cs'.all (·.oneCell') = true) (hc : c = true)
    (k : ∀ W', Hid (SB T b cs' W') → Hid (Ko W b W') → K (a.put o.dst undef) W') : if c = true then Oper.wp Try.prog o a W K Q else E :=
  step_runs hc (sstore_run T x y ho hx hy h hl hl' h1) (k _ (heap_setRow W b _ _ _ h) (Ko.row W b _))
end Go.Proofs.Ytanboekdfdafmaa.Ge
namespace Go.Proofs.Ytanboekdfdafmaa.Ge
open Go.ChangeShapes Go.WideShapes Go.ChangeAt Go.RowKit Go.Joins Go.Deep
set_option linter.unusedVariables false

/-- a list is appended, in a region that draws -/
theorem step_appL {α : Type} {o : Oper} {a : Act} {Q : Exit → Act → World → Prop} {K : Act → World → Prop} {c : Bool} {E0 : Prop} (E : El α) (s x : Operand) (t : TypeId) (htt : t = E.t)
    (ho : o.op = .call { callee := .builtin .append, args := #[s, x], argTypes := #[t, t] }) (N : Nat) (v : Value) (xs ys : List α) (va : Option Addr) (n cap : Nat) (W : World) (hbig : xs.length + n ≤ 1099511627775) (hs : a.eval s = v) (hown : OwnL E N W v xs)
    (hx : a.eval x = .slice va n cap) (hsrc : Lst E W va ys) (hnil : va = none → n = 0 ∧ cap = 0) (hn : ys.length = n) (hN : N ≤ W.heap.size) (hc : c = true)
    (h : ∀ v' w', Hid (OwnL E N w' v' (xs ++ ys)) → Hid (W.grownBy w' v.ownBlock) → Hid (v'.ownBlock = v.ownBlock ∨ v'.ownBlock = some W.heap.size) → K (a.put o.dst v') w') :
    if c = true then Oper.wp Try.prog o a W K Q else E0 := by
  subst htt
  rw [if_pos hc]
  obtain ⟨i0, hi, hz0, hz1, hz2⟩ := info_of E.hi
  cases va with
  | none =>
    obtain ⟨rfl, rfl⟩ := hnil rfl
    have e0 : ys = [] := List.length_eq_zero_iff.1 hn
    subst e0
    have hr := run_append_owned_none (P := Try.prog) W N E.t o.type E.e i0 E.k E.ht hi v xs.length (E.cs xs) hown.row
    unfold Oper.wp execOp
    simp only [ho, resolve, invoke, builtin, Sem.run_bind, Sem.run_pure, Result.andThen_ok, List.map_toArray, List.map_cons, List.map_nil, hs, hx, hr]
    exact h v W (by rw [List.append_nil]; exact hown) ⟨rfl, rfl, rfl, Nat.le_refl _, fun _ _ _ => rfl⟩ (Or.inl rfl)
  | some ad =>
    obtain ⟨v', w', hr, h2, h3, h4, h5⟩ := run_append_own_at (P := Try.prog) W N E.t o.type E.e i0 E.z E.k E.bytes E.ht hi hz0 hz1 hz2 E.hz E.hk v xs.length (E.cs xs) hown.row ad n cap (E.cs ys) (by rw [cs_len, hn]) (by
      intro j u hj
      have hlt : j < ys.length * E.k := by
        have := (List.getElem?_eq_some_iff.1 hj).1
        rw [cs_len] at this; exact this
      have hk := E.hk
      have hq : j / E.k < ys.length := (Nat.div_lt_iff_lt_mul hk).2 hlt
      have hr : j % E.k < E.k := Nat.mod_lt _ hk
      have hdm : j / E.k * E.k + j % E.k = j := by rw [Nat.mul_comm]; exact Nat.div_add_mod j E.k
      obtain ⟨b, o', e, -, hc⟩ := hsrc.cells (j / E.k) hq
      cases e
      rw [Addr.add_lit]
      have h2 := hc (j % E.k) hr
      rw [Nat.add_assoc, hdm] at h2
      rw [h2, ← cs_at E ys (j / E.k) hq (j % E.k) hr, hdm]
      exact hj) (cs_one E _) (by unfold maxLen; omega) (Nat.le_trans (Nat.mul_le_mul_left _ E.hb) (by omega)) hN
    unfold Oper.wp execOp
    simp only [ho, resolve, invoke, builtin, Sem.run_bind, Sem.run_pure, Result.andThen_ok, List.map_toArray, List.map_cons, List.map_nil, hs, hx, hr]
    exact h v' w' ⟨by rw [cs_app, List.length_append, hn]; exact h2⟩ h3 h5
/-- a part of a slice of bytes -/
theorem slice8_run {o : Oper} {ρ : Operand → Value} {W : World} (x lo hi : Operand) (ho : o.op = .slice 32 x (some lo) (some hi) none) {b f n c l h : Nat} (hx : ρ x = .slice (some ⟨b, f, none⟩) n c) (hl : ρ lo = .int .i64 (l : Int)) (hh : ρ hi = .int .i64 (h : Int)) (h1 : l ≤ h) (h2 : h ≤ c) :
    (execOp ρ o).run Try.prog W = .ok (.value (.slice (if c = l then some ⟨b, f, none⟩ else some ⟨b, f + l, none⟩) (h - l) (c - l))) W := by
  have g1 : (h : Int) ≤ (c : Int) := by omega
  have g2 : (l : Int) ≤ (h : Int) := by omega
  unfold execOp
  rw [ho]
  simp [go_sem, hx, hl, hh, g1, g2]
theorem slice8n_run {o : Oper} {ρ : Operand → Value} {W : World} (x lo : Operand) (ho : o.op = .slice 32 x (some lo) none none) {b f n c l : Nat} (hx : ρ x = .slice (some ⟨b, f, none⟩) n c) (hl : ρ lo = .int .i64 (l : Int)) (h1 : l ≤ n) (h2 : n ≤ c) :
    (execOp ρ o).run Try.prog W = .ok (.value (.slice (if c = l then some ⟨b, f, none⟩ else some ⟨b, f + l, none⟩) (n - l) (c - l))) W := by
  have g2 : (l : Int) ≤ (n : Int) := by omega
  unfold execOp
  rw [ho]
  simp [go_sem, hx, hl, g2]
theorem list_slice8 {ops : Array Oper} {rest : List Oper} {o : Oper} {ac : Act} {Q : Exit → Act → World → Prop} {W : World} (hgd : o.guard = none) (x lo hi : Operand) (ho : o.op = .slice 32 x (some lo) (some hi) none) {b f n c l h : Nat} (hx : ac.eval x = .slice (some ⟨b, f, none⟩) n c) (hl : ac.eval lo = .int .i64 (l : Int)) (hh : ac.eval hi = .int .i64 (h : Int)) (h1 : l ≤ h) (h2 : h ≤ c)
    (k : ∀ va : Option Addr, Hid (¬ c = l → va = some ⟨b, f + l, none⟩) → Hid (va ≠ none) → wpList Try.prog ops Q rest (ac.put o.dst (.slice va (h - l) (c - l))) W) : wpList Try.prog ops Q (o :: rest) ac W := by
  refine wpList_plain hgd fun K hK => ?_
  unfold Oper.wp
  rw [slice8_run x lo hi ho hx hl hh h1 h2]
  exact hK _ _ (k _ (fun e => if_neg e) (by show _ ≠ _; split <;> simp))
theorem list_slice8n {ops : Array Oper} {rest : List Oper} {o : Oper} {ac : Act} {Q : Exit → Act → World → Prop} {W : World} (hgd : o.guard = none) (x lo : Operand) (ho : o.op = .slice 32 x (some lo) none none) {b f n c l : Nat} (hx : ac.eval x = .slice (some ⟨b, f, none⟩) n c) (hl : ac.eval lo = .int .i64 (l : Int)) (h1 : l ≤ n) (h2 : n ≤ c)
    (k : ∀ va : Option Addr, Hid (¬ c = l → va = some ⟨b, f + l, none⟩) → Hid (va ≠ none) → wpList Try.prog ops Q rest (ac.put o.dst (.slice va (n - l) (c - l))) W) : wpList Try.prog ops Q (o :: rest) ac W := by
  refine wpList_plain hgd fun K hK => ?_
  unfold Oper.wp
  rw [slice8n_run x lo ho hx hl h1 h2]
  exact hK _ _ (k _ (fun e => if_neg e) (by show _ ≠ _; split <;> simp))
end Go.Proofs.Ytanboekdfdafmaa.Ge
namespace Go.Proofs.Ytanboekdfdafmaa.Pv
open Go.ChangeShapes Go.WideShapes Go.ChangeAt Go.RowKit Go.Joins Go.Deep Go.Proofs.Ytanboekdfdafmaa.PM Go.Proofs.Ytanboekdfdafmaa.Ask Go.Proofs.Ytanboekdfdafmaa.Ge
set_option linter.unusedVariables false

/-- what happens -/
structure Ev where
  kind : Int
  id : Int
  hold : Int
  code : Int
  m : Ms
/-- what a call answers -/
structure Ou where
  b : List Nat
  ev : List Ev
/-- one end -/
structure Se where
  dom : Int
  id : Int
  hold : Int
  peer : Int
  clock : Int
  state : Int
  heard : Int
  sent : Int
  wait : Int
  other : Int
  x : List Nat
  f : Int
def ntc (c : Int) : Ms := ⟨4, 0, 0, 0, c, [], [], rtZ⟩
def alv : Ms := ⟨3, 0, 0, 0, 0, [], [], rtZ⟩
def opn (s : Se) : Ms := ⟨1, s.dom, s.id, s.hold, 0, [], [], rtZ⟩
def sendP (s : Se) (o : Ou) (m : Ms) : Se × Ou := if encE m = 0 then ({ s with sent := s.clock }, { o with b := o.b ++ encB m }) else (s, o)
def idleP (s : Se) : Se := { s with state := 0, heard := 0, sent := 0, wait := 0, other := 0, x := [], f := 0 }
def tellP (o : Ou) (e : Ev) : Ou := { o with ev := o.ev ++ [e] }
def end1 (s : Se) (o : Ou) (c : Int) : Se × Ou := if c = 7 then (s, o) else sendP s o (ntc c)
def end2 (s : Se) (o : Ou) (c : Int) : Ou := if s.state = 3 then tellP o ⟨2, 0, 0, c, ms0⟩ else o
def endP (s : Se) (o : Ou) (c : Int) : Se × Ou := (idleP (end1 s o c).1, end2 (end1 s o c).1 (end1 s o c).2 c)
def clk (s : Se) (now : Int) : Se := { s with clock := max s.clock now }
def dueP (s : Se) (o : Ou) : Se × Ou :=
  if s.state = 0 ∨ s.wait = 0 then (s, o)
  else if s.wait ≤ s.clock - s.heard then endP s o 4
  else if s.state ≠ 1 ∧ s.wait.tdiv 3 ≤ s.clock - s.sent then sendP s o alv
  else (s, o)
def moveP (s : Se) (now : Int) : Se × Ou := dueP (clk s now) ⟨[], []⟩
def confP (s : Se) (m : Ms) : Se := { s with state := 2, other := m.id, wait := min s.hold m.hold }
def openP (s : Se) (o : Ou) (m : Ms) : Se × Ou :=
  if m.dom ≠ s.peer then endP s o 2 else if m.id = s.id then endP s o 3 else sendP (confP s m) o alv
def hearP (s : Se) (o : Ou) (m : Ms) : Se × Ou :=
  if m.kind = 4 then endP s o 7
  else if s.state = 1 ∧ m.kind = 1 then openP s o m
  else if s.state = 2 ∧ m.kind = 3 then ({ s with state := 3 }, tellP o ⟨1, s.other, s.wait, 0, ms0⟩)
  else if s.state = 3 ∧ m.kind = 2 then (s, tellP o ⟨3, 0, 0, 0, m⟩)
  else if s.state = 3 ∧ m.kind = 3 then (s, o)
  else endP s o 5
def hearsP : Se → Ou → List Ms → Se × Ou
  | s, o, [] => (s, o)
  | s, o, m :: l => if s.state = 0 then (s, o) else hearsP (hearP s o m).1 (hearP s o m).2 l
def faultP (q : Se × Ou) (f : Int) : Se × Ou := if f ≠ 0 ∧ q.1.state ≠ 0 then endP q.1 q.2 1 else q
def tookP (s : Se) (b : List Nat) : Se := { s with heard := s.clock, x := (TK s.x s.f b).2.1, f := (TK s.x s.f b).2.2 }
def recvQ (s : Se) (o : Ou) (b : List Nat) : Se × Ou :=
  if s.state = 0 ∨ b = [] then (s, o) else faultP (hearsP (tookP s b) o (TK s.x s.f b).1) (TK s.x s.f b).2.2
def recvP (s : Se) (b : List Nat) (now : Int) : Se × Ou := recvQ (moveP s now).1 (moveP s now).2 b
def begP (s : Se) : Se := { s with state := 1, heard := s.clock, sent := 0, wait := 240, other := 0, x := [], f := 0 }
def startQ (s : Se) (o : Ou) : Se × Ou := if s.state = 0 then sendP (begP s) o (opn s) else (s, o)
def startP (s : Se) (now : Int) : Se × Ou := startQ (moveP s now).1 (moveP s now).2

/-! in memory -/
def ssL (s : Se) (p : Option Nat) : List Value := [.int .i64 s.dom, .int .i64 s.id, .int .i64 s.hold, .int .i64 s.peer, .int .i64 s.clock, .int .i64 s.state, .pointer (p.map fun b => ⟨b, 0, none⟩), .int .i64 s.heard, .int .i64 s.sent, .int .i64 s.wait, .int .i64 s.other]
def evL (e : Ev) (s : Sl) : List Value := .int .i64 e.kind :: .int .i64 e.id :: .int .i64 e.hold :: .int .i64 e.code :: msL e.m s
def SsK : Sk := ⟨75, 11, _, Try.underlying75, rfl, by kernel_rfl⟩
def TkK : Sk := ⟨73, 5, _, Try.underlying73, rfl, by kernel_rfl⟩
def OutK : Sk := ⟨35, 2, _, Try.underlying35, rfl, by kernel_rfl⟩
def EvK : Sk := ⟨70, 21, _, Try.underlying70, rfl, by kernel_rfl⟩
def PmK : Sk := ⟨54, 17, _, Try.underlying54, rfl, by kernel_rfl⟩
def E21 : Gm.El (Ev × Sl) := ⟨70, 33, 21, 248, .agg #[.int .i64 0, .int .i64 0, .int .i64 0, .int .i64 0, .int .i64 0, .int .i64 0, .int .i64 0, .int .i64 0, .int .i64 0, .slice none 0 0, .slice none 0 0, .int .u32 0, .int .i64 0, .slice none 0 0, .int .i64 0, .int .i64 0, .int .i64 0, .int .u32 0, .slice none 0 0, .slice none 0 0, .int .i64 0], fun p => evL p.1 p.2, by decide, by decide, fun _ => rfl, fun x u hu => by
  simp only [evL, msL, List.mem_cons, List.not_mem_nil, or_false] at hu
  rcases hu with rfl | rfl | rfl | rfl | rfl | rfl | rfl | rfl | rfl | rfl | rfl | rfl | rfl | rfl | rfl | rfl | rfl | rfl | rfl | rfl | rfl <;> rfl, Try.underlying33, by kernel_rfl, rfl⟩
/-- events that the call has made -/
structure EvL (N : Nat) (W : World) (v : Value) (l : List (Ev × Sl)) : Prop where
  own : Gm.OwnL E21 N W v l
  each : ∀ p ∈ l, MO N W p.1.m p.2
  ap : ∀ p ∈ l, ∀ g, Mown p.2 g → ¬ v.ownBlock = some g
  pw : l.Pairwise (fun p q => ∀ g, Mown p.2 g → ¬ Mown q.2 g)
theorem EvL.nil (N : Nat) (W : World) : EvL N W (.slice none 0 0) [] := ⟨Gm.OwnL.nil _ _ _, (fun _ h => by cases h), (fun _ h => by cases h), List.Pairwise.nil⟩
/-- a stream: its block, where what waits lies, its room -/
abbrev Sp := Option (Nat × Option Addr × Nat)
structure Ses (W : World) (b : Nat) (s : Se) (st : Sp) : Prop where
  box : SB SsK b (ssL s (st.map (·.1))) W
  str : ∀ p, st = some p → Stm (p.1 + 1) W p.1 p.2.1 p.2.2 s.x s.f ∧ p.1 ≠ b ∧ ¬ ob p.2.1 = some b
  idl : st = none ↔ s.state = 0
  rg : 0 ≤ s.heard ∧ s.heard ≤ s.clock ∧ 0 ≤ s.sent ∧ s.sent ≤ s.clock ∧ s.clock < 9223372036854775808
  wt : (-9223372036854775808 ≤ s.wait ∧ s.wait < 9223372036854775808) ∧ (-9223372036854775808 ≤ s.hold ∧ s.hold < 9223372036854775808)
  ok : (s.f = 0 → SOk s.x) ∧ s.x.length ≤ 1024
/-- its blocks -/
def fpS (b : Nat) (st : Sp) (g : Nat) : Prop := g = b ∨ ∃ p, st = some p ∧ (g = p.1 ∨ ob p.2.1 = some g)
structure Out (M : Nat) (W : World) (bo : Nat) (o : Ou) (vb ve : Value) (l : List (Ev × Sl)) : Prop where
  box : SB OutK bo [vb, ve] W
  bys : OwnL E8 M W vb o.b
  ev : EvL M W ve l
  eq : l.map (fun p => p.1) = o.ev
  lo : M ≤ bo
  a1 : ∀ g, vb.ownBlock = some g → g ≠ bo ∧ ¬ ve.ownBlock = some g ∧ ∀ p ∈ l, ¬ Mown p.2 g
  a2 : ∀ g, ve.ownBlock = some g → g ≠ bo
  a3 : ∀ p ∈ l, ¬ Mown p.2 bo
def fpO (bo : Nat) (vb ve : Value) (l : List (Ev × Sl)) (g : Nat) : Prop := g = bo ∨ vb.ownBlock = some g ∨ ve.ownBlock = some g ∨ ∃ p ∈ l, Mown p.2 g
/-- what a call keeps: all but what it may turn -/
structure Kf (W W' : World) (F F' : Nat → Prop) : Prop where
  str : Below 0 W W'
  blk : ∀ g, g < W.heap.size → ¬ F g → W'.heap[g]? = W.heap[g]?
  now : ∀ g, F' g → F g ∨ W.heap.size ≤ g
theorem Kf.refl (W : World) (F : Nat → Prop) : Kf W W F F := ⟨Below.refl _ _, fun _ _ _ => rfl, fun _ h => .inl h⟩
theorem Kf.trans {W W1 W2 : World} {F F1 F2 : Nat → Prop} (h : Kf W W1 F F1) (k : Kf W1 W2 F1 F2) : Kf W W2 F F2 := by
  refine ⟨h.str.trans k.str, fun g hg hf => (k.blk g (Nat.lt_of_lt_of_le hg h.str.size) (fun h1 => ?_)).trans (h.blk g hg hf), fun g hg => ?_⟩
  · rcases h.now g h1 with e | e
    · exact hf e
    · omega
  · rcases k.now g hg with e | e
    · exact h.now g e
    · exact .inr (Nat.le_trans h.str.size e)
/-- a session and what its call has to answer, beside each other -/
def SO (M : Nat) (W : World) (b : Nat) (s : Se) (bo : Nat) (o : Ou) (F : Nat → Prop) : Prop :=
  ∃ st vb ve l, Ses W b s st ∧ Out M W bo o vb ve l ∧ (∀ g, fpS b st g → ¬ fpO bo vb ve l g) ∧ (∀ g, F g ↔ fpS b st g ∨ fpO bo vb ve l g)
theorem Ses.lt {W : World} {b : Nat} {s : Se} {st : Sp} (h : Ses W b s st) (g : Nat) (hg : fpS b st g) : g < W.heap.size := by
  rcases hg with rfl | ⟨p, e, rfl | e2⟩
  · exact h.box.lt
  · exact (h.str p e).1.hl
  · exact (own_obr (h.str p e).1.own g e2).2
theorem Out.lt {M : Nat} {W : World} {bo : Nat} {o : Ou} {vb ve : Value} {l : List (Ev × Sl)} (h : Out M W bo o vb ve l) (g : Nat) (hg : fpO bo vb ve l g) : g < W.heap.size ∧ M ≤ g := by
  rcases hg with rfl | e | e | ⟨p, hp, hm⟩
  · exact ⟨h.box.lt, h.lo⟩
  · exact ⟨(h.bys.row.lt g e).2, (h.bys.row.lt g e).1⟩
  · exact ⟨(h.ev.own.row.lt g e).2, (h.ev.own.row.lt g e).1⟩
  · exact ⟨((h.ev.each p hp).rng g hm).2, ((h.ev.each p hp).rng g hm).1⟩
theorem Ses.blk {W W' : World} {b : Nat} {s : Se} {st : Sp} (h : Ses W b s st) (hb : ∀ g, fpS b st g → g < W.heap.size → W'.heap[g]? = W.heap[g]?) : Ses W' b s st := by
  refine ⟨h.box.blk (hb b (.inl rfl) h.box.lt), fun p e => ?_, h.idl, h.rg, h.wt, h.ok⟩
  obtain ⟨h1, h2, h3⟩ := h.str p e
  exact ⟨h1.blk (hb _ (.inr ⟨p, e, .inl rfl⟩) h1.hl) (fun g e2 _ hl => hb g (.inr ⟨p, e, .inr e2⟩) hl), h2, h3⟩
theorem EvL.blk {N : Nat} {W W' : World} {v : Value} {l : List (Ev × Sl)} (h : EvL N W v l) (hb : ∀ g, (v.ownBlock = some g ∨ ∃ p ∈ l, Mown p.2 g) → g < W.heap.size → W'.heap[g]? = W.heap[g]?) : EvL N W' v l :=
  ⟨h.own.blk (fun g e => hb g (.inl e) (h.own.row.lt g e).2), fun p hp => (h.each p hp).blk (fun g hm _ h2 => hb g (.inr ⟨p, hp, hm⟩) h2), h.ap, h.pw⟩
theorem Out.blk {M : Nat} {W W' : World} {bo : Nat} {o : Ou} {vb ve : Value} {l : List (Ev × Sl)} (h : Out M W bo o vb ve l) (hb : ∀ g, fpO bo vb ve l g → g < W.heap.size → W'.heap[g]? = W.heap[g]?) : Out M W' bo o vb ve l :=
  ⟨h.box.blk (hb bo (.inl rfl) h.box.lt), h.bys.blk (fun g e => hb g (.inr (.inl e)) (h.bys.row.lt g e).2), h.ev.blk (fun g e hl => hb g (by rcases e with e | e; exact .inr (.inr (.inl e)); exact .inr (.inr (.inr e))) hl), h.eq, h.lo, h.a1, h.a2, h.a3⟩
theorem SO.blk {M : Nat} {W W' : World} {b bo : Nat} {s : Se} {o : Ou} {F : Nat → Prop} (h : SO M W b s bo o F) (hb : ∀ g, F g → g < W.heap.size → W'.heap[g]? = W.heap[g]?) : SO M W' b s bo o F := by
  obtain ⟨st, vb, ve, l, h1, h2, h3, h4⟩ := h
  exact ⟨st, vb, ve, l, h1.blk (fun g hg hl => hb g ((h4 g).2 (.inl hg)) hl), h2.blk (fun g hg hl => hb g ((h4 g).2 (.inr hg)) hl), h3, h4⟩
theorem SO.bel {M : Nat} {W W' : World} {b bo : Nat} {s : Se} {o : Ou} {F : Nat → Prop} (h : SO M W b s bo o F) (hb : Below W.heap.size W W') : SO M W' b s bo o F := h.blk (fun g _ hl => hb.block g hl)
theorem SO.lt {M : Nat} {W : World} {b bo : Nat} {s : Se} {o : Ou} {F : Nat → Prop} (h : SO M W b s bo o F) (g : Nat) (hg : F g) : g < W.heap.size := by
  obtain ⟨st, vb, ve, l, h1, h2, h3, h4⟩ := h
  rcases (h4 g).1 hg with e | e
  · exact h1.lt g e
  · exact (h2.lt g e).1
theorem Kf.bel {W W' : World} (F : Nat → Prop) (hb : Below W.heap.size W W') : Kf W W' F F := ⟨hb.mono (Nat.zero_le _), fun g hg _ => hb.block g hg, fun _ h => .inl h⟩
/-! a struct within a struct -/
def setL : List Value → Nat → List Value → List Value
  | cs, _, [] => cs
  | cs, o, v :: vs => setL (cs.set o v) (o + 1) vs
theorem SB.cells {T : Sk} {b : Nat} : ∀ (vs : List Value) (o : Nat) (cs : List Value) (w : World), SB T b cs w → SB T b (setL cs o vs) (w.setCells b o vs)
  | [], _, _, _, h => h
  | v :: vs, o, cs, w, h => SB.cells vs (o + 1) _ _ (h.set o v rfl)
theorem Ko.cellsL (b : Nat) : ∀ (vs : List Value) (o : Nat) (w : World), Ko w b (w.setCells b o vs)
  | [], o, w => Ko.refl w b
  | v :: vs, o, w => (Ko.set w b o v).trans (Ko.cellsL b vs (o + 1) _)
theorem sput_run {o : Oper} {ρ : Operand → Value} {W : World} (T U : Sk) (x y : Operand) (ho : o.op = .store U.t x y) {b off : Nat} {cs vs : List Value} (hx : ρ x = .pointer (some ⟨b, off, none⟩)) (hy : ρ y = .agg vs.toArray) (h : SB T b cs W) (hl : vs.length = U.k) (hin : off + vs.length ≤ cs.length) (h1 : vs.all (·.oneCell') = true) : (execOp ρ o).run Try.prog W = .ok .skip (W.setCells b off vs) := by
  have ht : W.there b off vs.toArray.size := fun j hj => by
    refine ⟨?_, h.fro _⟩
    rw [h.cell]
    have : j < vs.length := hj
    rw [List.getElem?_eq_getElem (by omega)]
    rfl
  unfold execOp
  simp only [ho, hx, hy, Instr.storeAt, Instr.sureAddr, Sem.run_bind, Sem.run_pure, Result.andThen_ok, run_storeVar_mid (P := Try.prog) W b off U.t vs.toArray ht (by rw [U.hi]; simp [hl]) (by simpa using h1)]
/-- a struct is stored within another one -/
theorem list_sput {ops : Array Oper} {rest : List Oper} {o : Oper} {ac : Act} {Q : Exit → Act → World → Prop} {W : World} (T U : Sk) (hgd : o.guard = none) (x y : Operand) (ho : o.op = .store U.t x y) {b off : Nat} {cs vs : List Value} (hx : ac.eval x = .pointer (some ⟨b, off, none⟩)) (hy : ac.eval y = .agg vs.toArray) (h : SB T b cs W) (hl : vs.length = U.k) (hin : off + vs.length ≤ cs.length) (h1 : vs.all (·.oneCell') = true)
    (k : ∀ W', Hid (SB T b (setL cs off vs) W') → Hid (Ko W b W') → wpList Try.prog ops Q rest (ac.put o.dst undef) W') : wpList Try.prog ops Q (o :: rest) ac W := by
  refine wpList_plain hgd fun K hK => ?_
  unfold Oper.wp
  rw [sput_run T U x y ho hx hy h hl hin h1]
  exact hK _ _ (k _ (SB.cells vs off cs W h) (Ko.cellsL b vs off W))
theorem ebuild_run {o : Oper} (x : Operand) (ho : o.op = .buildSlice 33 1 #[(0, x)]) {ρ : Operand → Value} {e : Ev} {s : Sl} {W : World} (hx : ρ x = .agg (evL e s).toArray) : (execOp ρ o).run Try.prog W = .ok (.value (.slice (some ⟨W.heap.size, 0, none⟩) 1 1)) (W.alloc (Obj.cells (evL e s).toArray 70)) := by
  unfold evL msL at hx
  unfold execOp
  rw [ho]
  simp [go_sem, hx, evL, msL]
/-- a list of one event is built -/
theorem list_ebuild {ops : Array Oper} {rest : List Oper} {o : Oper} {ac : Act} {Q : Exit → Act → World → Prop} {W : World} (hgd : o.guard = none) (x : Operand) (ho : o.op = .buildSlice 33 1 #[(0, x)]) {e : Ev} {s : Sl} (hx : ac.eval x = .agg (evL e s).toArray)
    (k : wpList Try.prog ops Q rest (ac.put o.dst (.slice (some ⟨W.heap.size, 0, none⟩) 1 1)) (W.alloc (Obj.cells (evL e s).toArray 70))) : wpList Try.prog ops Q (o :: rest) ac W := by
  refine wpList_plain hgd fun K hK => ?_
  unfold Oper.wp
  rw [ebuild_run x ho hx]
  exact hK _ _ k
/-- one item more, in a region that draws -/
theorem gstep_app1 {α : Type} {o : Oper} {a : Act} {Q : Exit → Act → World → Prop} {K : Act → World → Prop} {c : Bool} {E0 : Prop} (E : Gm.El α) (s x : Operand) (t : TypeId) (htt : t = E.t)
    (ho : o.op = .call { callee := .builtin .append, args := #[s, x], argTypes := #[t, t] }) (N : Nat) (v : Value) (xs : List α) (y : α) (hbig : xs.length ≤ 137438953471) (W : World) (hs : a.eval s = v) (hown : Gm.OwnL E N W v xs) (bb : Nat)
    (hx : a.eval x = .slice (some ⟨bb, 0, none⟩) 1 1) (hN : N ≤ W.heap.size) (hnew : W.heap[bb]? = some (Obj.cells (E.enc y).toArray E.e)) (hc : c = true)
    (h : ∀ v' w', Hid (Gm.OwnL E N w' v' (xs ++ [y])) → Hid (W.grownBy w' v.ownBlock) → Hid (v'.ownBlock = v.ownBlock ∨ v'.ownBlock = some W.heap.size) → K (a.put o.dst v') w') :
    if c = true then Oper.wp Try.prog o a W K Q else E0 := by
  subst htt
  rw [if_pos hc]
  obtain ⟨i0, hi, hz0, hz1, hz2⟩ := Gm.info_of E.hi
  have e1 : E.cs [y] = E.enc y := by simp [Gm.El.cs]
  obtain ⟨v', w', hr, h2, h3, h4, h5⟩ := run_append_own_at (P := Try.prog) W N E.t o.type E.e i0 E.z E.k E.bytes E.ht hi hz0 hz1 hz2 E.hz E.hk v xs.length (E.cs xs) hown.row ⟨bb, 0, none⟩ 1 1 (E.cs [y]) (Gm.cs_len E _) (by
    intro j u hj
    rw [e1] at hj
    rw [Addr.add_lit, Nat.zero_add]
    simp [World.cell?, hnew, hj]) (Gm.cs_one E _) (by unfold maxLen; omega) (Nat.le_trans (Nat.mul_le_mul_left _ E.hb) (by omega)) hN
  unfold Oper.wp execOp
  simp only [ho, resolve, invoke, builtin, Sem.run_bind, Sem.run_pure, Result.andThen_ok, List.map_toArray, List.map_cons, List.map_nil, hs, hx, hr]
  exact h v' w' ⟨by rw [Gm.cs_app, List.length_append]; exact h2⟩ h3 h5
end Go.Proofs.Ytanboekdfdafmaa.Pv
