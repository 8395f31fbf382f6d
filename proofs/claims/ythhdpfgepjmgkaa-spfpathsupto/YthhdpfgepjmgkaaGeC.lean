/- Whole structs in memory: loaded, stored, boxed. -/
import Derived.Test.YthhdpfgepjmgkaaGeA
import Derived.Deep.MidRow
import Derived.Laws.CopyOwn
namespace Go.Proofs.Ythhdpfgepjmgkaa.Ge
open Go.ChangeShapes Go.WideShapes Go.ChangeAt Go.RowKit Go.Joins Go.Deep
set_option linter.unusedVariables false

/-- a kind of struct -/
structure Sk where
  t : TypeId
  k : Nat
  d : TypeDesc
  hu : Try.prog.underlying t = some d
  hd : d.isRow = true
  hi : (Try.prog.info? t).map (·.size) = some k
/-- a block that holds one -/
def SB (T : Sk) (b : Nat) (cs : List Value) (w : World) : Prop := w.heap[b]? = some (Obj.cells cs.toArray T.t)
/-- nothing but one block has turned -/
structure Ko (w : World) (b : Nat) (w' : World) : Prop where
  str : Below 0 w w'
  size : w'.heap.size = w.heap.size
  block : ∀ g, g ≠ b → w'.heap[g]? = w.heap[g]?
theorem Ko.refl (w : World) (b : Nat) : Ko w b w := ⟨Below.refl _ _, rfl, fun _ _ => rfl⟩
theorem Ko.trans {w w1 w2 : World} {b : Nat} (h : Ko w b w1) (k : Ko w1 b w2) : Ko w b w2 := ⟨h.str.trans k.str, k.size.trans h.size, fun g hg => (k.block g hg).trans (h.block g hg)⟩
theorem Ko.below {w w1 : World} {b N : Nat} (h : Ko w b w1) (hN : N ≤ b) : Below N w w1 := ⟨h.str.os, h.str.tape, h.str.output, h.str.size, fun k hk => h.block k (by omega)⟩
theorem SB.lt {T : Sk} {b : Nat} {cs : List Value} {w : World} (h : SB T b cs w) : b < w.heap.size := (Array.getElem?_eq_some_iff.1 h).1
theorem SB.cell {T : Sk} {b : Nat} {cs : List Value} {w : World} (h : SB T b cs w) (i : Nat) : w.cell? ⟨b, i, none⟩ = cs[i]? := by unfold World.cell?; rw [h]; simp
theorem SB.fro {T : Sk} {b : Nat} {cs : List Value} {w : World} (h : SB T b cs w) (i : Nat) : w.frozen? ⟨b, i, none⟩ = false := by unfold World.frozen?; rw [h]; simp
theorem SB.blk {T : Sk} {b : Nat} {cs : List Value} {w w' : World} (h : SB T b cs w) (hb : w'.heap[b]? = w.heap[b]?) : SB T b cs w' := hb.trans h
theorem SB.set {T : Sk} {b : Nat} {cs cs' : List Value} {w : World} (h : SB T b cs w) (i : Nat) (v : Value) (he : cs.set i v = cs') : SB T b cs' (w.setCell ⟨b, i, none⟩ v) := by
  unfold SB
  rw [heap_setCell_same w b i _ _ v h, ← he]
  simp
theorem Ko.set (w : World) (b i : Nat) (v : Value) : Ko w b (w.setCell ⟨b, i, none⟩ v) := ⟨(Below.refl _ w).setCell (p := ⟨b, i, none⟩) (Nat.zero_le _) v, by simp, fun g hg => Below.heap_setCell w ⟨b, i, none⟩ _ g hg⟩
theorem SB.made (T : Sk) {w W : World} {cs : List Value} (h : w.alloc (Obj.cells cs.toArray T.t) = W) : SB T w.heap.size cs W ∧ Below w.heap.size w W := by
  subst h
  exact ⟨World.alloc_heap_new w _, (Below.refl _ _).alloc (Nat.le_refl _) _⟩
theorem heap_setRow (w : World) (g : Nat) (old cs : Array Value) (t : TypeId) (h : w.heap[g]? = some (Obj.cells old t)) : (w.setRow g cs).heap[g]? = some (Obj.cells cs t) := by
  obtain ⟨hl, e⟩ := Array.getElem?_eq_some_iff.1 h
  simp [World.setRow, hl, Array.getElem_modify, e]
theorem Ko.row (w : World) (g : Nat) (cs : Array Value) : Ko w g (w.setRow g cs) :=
  ⟨below_setRow (Below.refl _ w) (Nat.zero_le _) cs, by simp [World.setRow], fun k hk => setRow_other w g k cs hk⟩
theorem sload_run {o : Oper} {ρ : Operand → Value} {W : World} (T : Sk) (x : Operand) (ho : o.op = .load T.t x) {b : Nat} {cs : List Value} (hx : ρ x = .pointer (some ⟨b, 0, none⟩)) (h : SB T b cs W) (hl : cs.length = T.k) : (execOp ρ o).run Try.prog W = .ok (.value (.agg cs.toArray)) W := by
  unfold execOp
  have hr : W.rangeAt b 0 cs := fun j v hv => by rw [Nat.zero_add, h.cell]; exact hv
  simp only [ho, hx, Instr.loadAt, Instr.sureAddr, Sem.run_bind, Sem.run_pure, Result.andThen_ok, run_loadVar_mid W b 0 T.t cs T.d hr T.hu T.hd (by rw [T.hi, hl])]
/-- a struct is loaded -/
theorem list_sload {ops : Array Oper} {rest : List Oper} {o : Oper} {ac : Act} {Q : Exit → Act → World → Prop} {W : World} (T : Sk) (hgd : o.guard = none) (x : Operand) (ho : o.op = .load T.t x) {b : Nat} {cs : List Value} (hx : ac.eval x = .pointer (some ⟨b, 0, none⟩)) (h : SB T b cs W) (hl : cs.length = T.k)
    (k : wpList Try.prog ops Q rest (ac.put o.dst (.agg cs.toArray)) W) : wpList Try.prog ops Q (o :: rest) ac W := by
  refine wpList_plain hgd fun K hK => ?_
  unfold Oper.wp
  rw [sload_run T x ho hx h hl]
  exact hK _ _ k
theorem sstore_run {o : Oper} {ρ : Operand → Value} {W : World} (T : Sk) (x y : Operand) (ho : o.op = .store T.t x y) {b : Nat} {cs cs' : List Value} (hx : ρ x = .pointer (some ⟨b, 0, none⟩)) (hy : ρ y = .agg cs'.toArray) (h : SB T b cs W) (hl : cs.length = T.k) (hl' : cs'.length = T.k) (h1 : cs'.all (·.oneCell') = true) : (execOp ρ o).run Try.prog W = .ok .skip (W.setRow b cs'.toArray) := by
  unfold execOp
  have ha : cs'.toArray.all (·.oneCell') = true := by simpa using h1
  simp only [ho, hx, hy, Instr.storeAt, Instr.sureAddr, Sem.run_bind, Sem.run_pure, Result.andThen_ok, run_storeVar_row W b T.t T.t cs.toArray cs'.toArray h (by rw [T.hi]; simp [hl']) (by simp [hl, hl']) ha]
/-- a struct is stored -/
theorem list_sstore {ops : Array Oper} {rest : List Oper} {o : Oper} {ac : Act} {Q : Exit → Act → World → Prop} {W : World} (T : Sk) (hgd : o.guard = none) (x y : Operand) (ho : o.op = .store T.t x y) {b : Nat} {cs cs' : List Value} (hx : ac.eval x = .pointer (some ⟨b, 0, none⟩)) (hy : ac.eval y = .agg cs'.toArray) (h : SB T b cs W) (hl : cs.length = T.k) (hl' : cs'.length = T.k) (h1 : cs'.all (·.oneCell') = true)
    (k : ∀ W', Hid (SB T b cs' W') → Hid (Ko W b W') → wpList Try.prog ops Q rest (ac.put o.dst undef) W') : wpList Try.prog ops Q (o :: rest) ac W := by
  refine wpList_plain hgd fun K hK => ?_
  unfold Oper.wp
  rw [sstore_run T x y ho hx hy h hl hl' h1]
  exact hK _ _ (k _ (heap_setRow W b _ _ _ h) (Ko.row W b _))
theorem sbox_run {o : Oper} {ρ : Operand → Value} {W : World} (T : Sk) (x : Operand) (ho : o.op = .box T.t x) {cs : List Value} (hx : ρ x = .agg cs.toArray) : (execOp ρ o).run Try.prog W = .ok (.value (.pointer (some ⟨W.heap.size, 0, none⟩))) (W.alloc (Obj.cells cs.toArray T.t)) := by
  unfold execOp
  rw [ho]
  simp [go_sem, hx]
/-- a struct is boxed -/
theorem list_sbox {ops : Array Oper} {rest : List Oper} {o : Oper} {ac : Act} {Q : Exit → Act → World → Prop} {W : World} (T : Sk) (hgd : o.guard = none) (x : Operand) (ho : o.op = .box T.t x) {cs : List Value} (hx : ac.eval x = .agg cs.toArray)
    (k : ∀ W', Hid (SB T W.heap.size cs W') → Hid (Below W.heap.size W W') → W'.heap.size = W.heap.size + 1 → wpList Try.prog ops Q rest (ac.put o.dst (.pointer (some ⟨W.heap.size, 0, none⟩))) W') : wpList Try.prog ops Q (o :: rest) ac W := by
  refine wpList_plain hgd fun K hK => ?_
  unfold Oper.wp
  rw [sbox_run T x ho hx]
  exact hK _ _ (k _ (World.alloc_heap_new W _) ((Below.refl _ W).alloc (Nat.le_refl _) _) (by simp))
/-- one operation of a region that draws -/
theorem step_run {P : Program} {o : Oper} {a : Act} {w w' : World} {K : Act → World → Prop} {Q : Exit → Act → World → Prop} {v : Value} {c : Bool} {E : Prop} (hc : c = true) (h : (execOp a.eval o).run P w = .ok (.value v) w') (hk : K (a.put o.dst v) w') : if c = true then Oper.wp P o a w K Q else E := by
  rw [if_pos hc]; unfold Oper.wp; rw [h]; exact hk
theorem step_runs {P : Program} {o : Oper} {a : Act} {w w' : World} {K : Act → World → Prop} {Q : Exit → Act → World → Prop} {c : Bool} {E : Prop} (hc : c = true) (h : (execOp a.eval o).run P w = .ok .skip w') (hk : K (a.put o.dst undef) w') : if c = true then Oper.wp P o a w K Q else E := by
  rw [if_pos hc]; unfold Oper.wp; rw [h]; exact hk
theorem sstore_step {o : Oper} {a : Act} {W : World} {K : Act → World → Prop} {Q : Exit → Act → World → Prop} {c : Bool} {E : Prop} (T : Sk) (x y : Operand) (ho : o.op = .store T.t x y) {b : Nat} {cs cs' : List Value} (hx : a.eval x = .pointer (some ⟨b, 0, none⟩)) (hy : a.eval y = .agg cs'.toArray) (h : SB T b cs W) (hl : cs.length = T.k) (hl' : cs'.length = T.k) (h1 : cs'.all (·.oneCell') = true) (hc : c = true)
    (k : ∀ W', Hid (SB T b cs' W') → Hid (Ko W b W') → K (a.put o.dst undef) W') : if c = true then Oper.wp Try.prog o a W K Q else E :=
  step_runs hc (sstore_run T x y ho hx hy h hl hl' h1) (k _ (heap_setRow W b _ _ _ h) (Ko.row W b _))
end Go.Proofs.Ythhdpfgepjmgkaa.Ge
