/- reader.announcement: what it answers. -/
import Derived.Test.YtagfdmkgnedlbaeLsV
import Derived.Test.YtagfdmkgnedlbaeLsKa
namespace Go.Proofs.Ytagfdmkgnedlbae.Ls
open Go.ChangeShapes Go.WideShapes Go.ChangeAt Go.RowKit Go.Joins Go.Proofs.Ytagfdmkgnedlbae.PM Go.Proofs.Ytagfdmkgnedlbae.Ask
set_option linter.unusedVariables false

/-- the two boxes of the call: what it answers (zero), and what it reads into -/
structure BI (M br : Nat) (w : World) (s : Nat) (r : Rst) (kind area origin pa pn seq age : Int) (lv sv : Value) (cost tag : Int) (W : World) : Prop where
  ri : RI M br w r W
  hM : M ≤ w.heap.size
  bx : LBox s kind area origin pa pn seq age lv sv cost tag W
  fx : ∀ i, W.frozen? ⟨s, i, none⟩ = false
  zx : LBox w.heap.size 0 0 0 0 0 0 0 (.slice none 0 0) (.slice none 0 0) 0 0 W
  fz : ∀ i, W.frozen? ⟨w.heap.size, i, none⟩ = false
  lo : w.heap.size < s
  sz : s < W.heap.size
section
variable {M br s : Nat} {w : World} {r r' : Rst} {kind area origin pa pn seq age : Int} {lv sv : Value} {cost tag : Int} {W W' : World}
theorem LBox.blk (h : LBox s kind area origin pa pn seq age lv sv cost tag W) (hb : W'.heap[s]? = W.heap[s]?) : LBox s kind area origin pa pn seq age lv sv cost tag W' :=
  ⟨(World.cell?_of_block (w := W) hb).trans h.c0, (World.cell?_of_block (w := W) hb).trans h.c1, (World.cell?_of_block (w := W) hb).trans h.c2, (World.cell?_of_block (w := W) hb).trans h.c3, (World.cell?_of_block (w := W) hb).trans h.c4, (World.cell?_of_block (w := W) hb).trans h.c5, (World.cell?_of_block (w := W) hb).trans h.c6, (World.cell?_of_block (w := W) hb).trans h.c7, (World.cell?_of_block (w := W) hb).trans h.c8, (World.cell?_of_block (w := W) hb).trans h.c9, (World.cell?_of_block (w := W) hb).trans h.c10⟩
theorem BI.keep (h : BI M br w s r kind area origin pa pn seq age lv sv cost tag W) (hr : RI M br w r' W') (h0 : W'.heap[w.heap.size]? = W.heap[w.heap.size]?) (h1 : W'.heap[s]? = W.heap[s]?) (hs : W.heap.size ≤ W'.heap.size) : BI M br w s r' kind area origin pa pn seq age lv sv cost tag W' :=
  ⟨hr, h.hM, h.bx.blk h1, fun i => (World.frozen?_of_block (w := W) h1).trans (h.fx i), h.zx.blk h0, fun i => (World.frozen?_of_block (w := W) h0).trans (h.fz i), h.lo, Nat.lt_of_lt_of_le h.sz hs⟩
theorem BI.bel (h : BI M br w s r kind area origin pa pn seq age lv sv cost tag W) (hb : Below W.heap.size W W') : BI M br w s r kind area origin pa pn seq age lv sv cost tag W' := by
  have := h.sz
  have := h.lo
  exact h.keep (h.ri.low hb) (hb.block _ (by omega)) (hb.block _ (by omega)) hb.size
theorem BI.alloc (h : BI M br w s r kind area origin pa pn seq age lv sv cost tag W) (o : Obj) : BI M br w s r kind area origin pa pn seq age lv sv cost tag (W.alloc o) := h.bel ((Below.refl _ W).alloc (Nat.le_refl _) o)
theorem BI.drew (h : BI M br w s r kind area origin pa pn seq age lv sv cost tag W) : BI M br w s r kind area origin pa pn seq age lv sv cost tag W.drew := h.bel (drew_bel W)
/-- a row of its own grows -/
theorem BI.grown {o : Option Nat} (h : BI M br w s r kind area origin pa pn seq age lv sv cost tag W) (hg : W.grownBy W' o) (ho : ∀ g, o = some g → s + 1 ≤ g) : BI M br w s r kind area origin pa pn seq age lv sv cost tag W' := by
  have h2 := h.sz
  have hM := h.hM
  have hl := h.lo
  have hb : Below (s + 1) W W' := (Below.refl _ W).grown hg h2 ho
  exact h.keep (h.ri.high hM (hb.mono (by omega))) (hb.block _ (by omega)) (hb.block _ (by omega)) hg.size
theorem BI.num (h : BI M br w s r kind area origin pa pn seq age lv sv cost tag W) (size : Nat) (sz : Int) (hs : ((size : Nat) : Int) = sz) (h0 : 0 < size) (h7 : size ≤ 7) (v : Int) (hv : ((rdV size r : Nat) : Int) = v) (r' : Rst) (hr : rdR size r = r') :
    Calls Try.prog 56 #[.pointer (some ⟨br, 0, none⟩), .int .i64 sz] W fun e w' => e = .returned (.int .i64 v) ∧ BI M br w s r' kind area origin pa pn seq age lv sv cost tag w' ∧ Kr br W w' := by
  refine (h.ri.numL size sz hs h0 h7 v hv r' hr).mono ?_
  rintro e w' ⟨rfl, h1, h2⟩
  have h3 := h.sz
  have h6 := h.lo
  have h4 := h1.rd.lt
  have h5 := h.hM
  exact ⟨rfl, h.keep h1 (h2.block _ (by omega) (by omega)) (h2.block _ (by omega) (by omega)) h2.str.size, h2⟩
theorem BI.stub (h : BI M br w s r kind area origin pa pn seq age lv sv cost tag W) (xa xb xc : Int) (r' : Rst) (hd : decSt r = ((xa, xb, xc), r')) :
    Calls Try.prog 67 #[.pointer (some ⟨br, 0, none⟩)] W fun e w' => e = .returned (.agg #[.int .u32 xa, .int .i64 xb, .int .i64 xc]) ∧ BI M br w s r' kind area origin pa pn seq age lv sv cost tag w' ∧ Kr br W w' := by
  refine (rstub_any M br w W r h.ri xa xb xc r' hd).mono ?_
  rintro e w' ⟨rfl, h1, h2⟩
  have h3 := h.sz
  have h6 := h.lo
  have h4 := h1.rd.lt
  have h5 := h.hM
  exact ⟨rfl, h.keep h1 (h2.block _ (by omega) (by omega)) (h2.block _ (by omega) (by omega)) h2.str.size, h2⟩
theorem BI.set1 (h : BI M br w s r kind area origin pa pn seq age lv sv cost tag W) (n : Int) : BI M br w s r kind n origin pa pn seq age lv sv cost tag (W.setCell ⟨s, 1, none⟩ (.int .i64 n)) := by
  have hl := h.lo
  obtain ⟨c0, c1, c2, c3, c4, c5, c6, c7, c8, c9, c10⟩ := h.bx
  refine ⟨h.ri.high h.hM ((Below.refl _ W).setCell (p := ⟨s, 1, none⟩) (by show _ ≤ s; omega) _), h.hM, ⟨?_, ?_, ?_, ?_, ?_, ?_, ?_, ?_, ?_, ?_, ?_⟩, fun i => by rw [World.frozen?_setCell]; exact h.fx i, h.zx.blk (Below.heap_setCell W ⟨s, 1, none⟩ _ _ (by show _ ≠ s; omega)), fun i => by rw [World.frozen?_setCell]; exact h.fz i, h.lo, by simpa using h.sz⟩
  all_goals first
    | exact World.cell?_setCell_same' _ _ _ (by rw [c1]; rfl)
    | (rw [World.cell?_setCell_other _ _ _ _ (by intro e; injection e with _ e2 _; cases e2)]; assumption)
theorem BI.set2 (h : BI M br w s r kind area origin pa pn seq age lv sv cost tag W) (n : Int) : BI M br w s r kind area n pa pn seq age lv sv cost tag (W.setCell ⟨s, 2, none⟩ (.int .i64 n)) := by
  have hl := h.lo
  obtain ⟨c0, c1, c2, c3, c4, c5, c6, c7, c8, c9, c10⟩ := h.bx
  refine ⟨h.ri.high h.hM ((Below.refl _ W).setCell (p := ⟨s, 2, none⟩) (by show _ ≤ s; omega) _), h.hM, ⟨?_, ?_, ?_, ?_, ?_, ?_, ?_, ?_, ?_, ?_, ?_⟩, fun i => by rw [World.frozen?_setCell]; exact h.fx i, h.zx.blk (Below.heap_setCell W ⟨s, 2, none⟩ _ _ (by show _ ≠ s; omega)), fun i => by rw [World.frozen?_setCell]; exact h.fz i, h.lo, by simpa using h.sz⟩
  all_goals first
    | exact World.cell?_setCell_same' _ _ _ (by rw [c2]; rfl)
    | (rw [World.cell?_setCell_other _ _ _ _ (by intro e; injection e with _ e2 _; cases e2)]; assumption)
theorem BI.set3 (h : BI M br w s r kind area origin pa pn seq age lv sv cost tag W) (n : Int) : BI M br w s r kind area origin n pn seq age lv sv cost tag (W.setCell ⟨s, 3, none⟩ (.int .u32 n)) := by
  have hl := h.lo
  obtain ⟨c0, c1, c2, c3, c4, c5, c6, c7, c8, c9, c10⟩ := h.bx
  refine ⟨h.ri.high h.hM ((Below.refl _ W).setCell (p := ⟨s, 3, none⟩) (by show _ ≤ s; omega) _), h.hM, ⟨?_, ?_, ?_, ?_, ?_, ?_, ?_, ?_, ?_, ?_, ?_⟩, fun i => by rw [World.frozen?_setCell]; exact h.fx i, h.zx.blk (Below.heap_setCell W ⟨s, 3, none⟩ _ _ (by show _ ≠ s; omega)), fun i => by rw [World.frozen?_setCell]; exact h.fz i, h.lo, by simpa using h.sz⟩
  all_goals first
    | exact World.cell?_setCell_same' _ _ _ (by rw [c3]; rfl)
    | (rw [World.cell?_setCell_other _ _ _ _ (by intro e; injection e with _ e2 _; cases e2)]; assumption)
theorem BI.set4 (h : BI M br w s r kind area origin pa pn seq age lv sv cost tag W) (n : Int) : BI M br w s r kind area origin pa n seq age lv sv cost tag (W.setCell ⟨s, 4, none⟩ (.int .i64 n)) := by
  have hl := h.lo
  obtain ⟨c0, c1, c2, c3, c4, c5, c6, c7, c8, c9, c10⟩ := h.bx
  refine ⟨h.ri.high h.hM ((Below.refl _ W).setCell (p := ⟨s, 4, none⟩) (by show _ ≤ s; omega) _), h.hM, ⟨?_, ?_, ?_, ?_, ?_, ?_, ?_, ?_, ?_, ?_, ?_⟩, fun i => by rw [World.frozen?_setCell]; exact h.fx i, h.zx.blk (Below.heap_setCell W ⟨s, 4, none⟩ _ _ (by show _ ≠ s; omega)), fun i => by rw [World.frozen?_setCell]; exact h.fz i, h.lo, by simpa using h.sz⟩
  all_goals first
    | exact World.cell?_setCell_same' _ _ _ (by rw [c4]; rfl)
    | (rw [World.cell?_setCell_other _ _ _ _ (by intro e; injection e with _ e2 _; cases e2)]; assumption)
theorem BI.set5 (h : BI M br w s r kind area origin pa pn seq age lv sv cost tag W) (n : Int) : BI M br w s r kind area origin pa pn n age lv sv cost tag (W.setCell ⟨s, 5, none⟩ (.int .i64 n)) := by
  have hl := h.lo
  obtain ⟨c0, c1, c2, c3, c4, c5, c6, c7, c8, c9, c10⟩ := h.bx
  refine ⟨h.ri.high h.hM ((Below.refl _ W).setCell (p := ⟨s, 5, none⟩) (by show _ ≤ s; omega) _), h.hM, ⟨?_, ?_, ?_, ?_, ?_, ?_, ?_, ?_, ?_, ?_, ?_⟩, fun i => by rw [World.frozen?_setCell]; exact h.fx i, h.zx.blk (Below.heap_setCell W ⟨s, 5, none⟩ _ _ (by show _ ≠ s; omega)), fun i => by rw [World.frozen?_setCell]; exact h.fz i, h.lo, by simpa using h.sz⟩
  all_goals first
    | exact World.cell?_setCell_same' _ _ _ (by rw [c5]; rfl)
    | (rw [World.cell?_setCell_other _ _ _ _ (by intro e; injection e with _ e2 _; cases e2)]; assumption)
theorem BI.set6 (h : BI M br w s r kind area origin pa pn seq age lv sv cost tag W) (n : Int) : BI M br w s r kind area origin pa pn seq n lv sv cost tag (W.setCell ⟨s, 6, none⟩ (.int .i64 n)) := by
  have hl := h.lo
  obtain ⟨c0, c1, c2, c3, c4, c5, c6, c7, c8, c9, c10⟩ := h.bx
  refine ⟨h.ri.high h.hM ((Below.refl _ W).setCell (p := ⟨s, 6, none⟩) (by show _ ≤ s; omega) _), h.hM, ⟨?_, ?_, ?_, ?_, ?_, ?_, ?_, ?_, ?_, ?_, ?_⟩, fun i => by rw [World.frozen?_setCell]; exact h.fx i, h.zx.blk (Below.heap_setCell W ⟨s, 6, none⟩ _ _ (by show _ ≠ s; omega)), fun i => by rw [World.frozen?_setCell]; exact h.fz i, h.lo, by simpa using h.sz⟩
  all_goals first
    | exact World.cell?_setCell_same' _ _ _ (by rw [c6]; rfl)
    | (rw [World.cell?_setCell_other _ _ _ _ (by intro e; injection e with _ e2 _; cases e2)]; assumption)
theorem BI.set7 (h : BI M br w s r kind area origin pa pn seq age lv sv cost tag W) (v : Value) : BI M br w s r kind area origin pa pn seq age v sv cost tag (W.setCell ⟨s, 7, none⟩ v) := by
  have hl := h.lo
  obtain ⟨c0, c1, c2, c3, c4, c5, c6, c7, c8, c9, c10⟩ := h.bx
  refine ⟨h.ri.high h.hM ((Below.refl _ W).setCell (p := ⟨s, 7, none⟩) (by show _ ≤ s; omega) _), h.hM, ⟨?_, ?_, ?_, ?_, ?_, ?_, ?_, ?_, ?_, ?_, ?_⟩, fun i => by rw [World.frozen?_setCell]; exact h.fx i, h.zx.blk (Below.heap_setCell W ⟨s, 7, none⟩ _ _ (by show _ ≠ s; omega)), fun i => by rw [World.frozen?_setCell]; exact h.fz i, h.lo, by simpa using h.sz⟩
  all_goals first
    | exact World.cell?_setCell_same' _ _ _ (by rw [c7]; rfl)
    | (rw [World.cell?_setCell_other _ _ _ _ (by intro e; injection e with _ e2 _; cases e2)]; assumption)
theorem BI.set8 (h : BI M br w s r kind area origin pa pn seq age lv sv cost tag W) (v : Value) : BI M br w s r kind area origin pa pn seq age lv v cost tag (W.setCell ⟨s, 8, none⟩ v) := by
  have hl := h.lo
  obtain ⟨c0, c1, c2, c3, c4, c5, c6, c7, c8, c9, c10⟩ := h.bx
  refine ⟨h.ri.high h.hM ((Below.refl _ W).setCell (p := ⟨s, 8, none⟩) (by show _ ≤ s; omega) _), h.hM, ⟨?_, ?_, ?_, ?_, ?_, ?_, ?_, ?_, ?_, ?_, ?_⟩, fun i => by rw [World.frozen?_setCell]; exact h.fx i, h.zx.blk (Below.heap_setCell W ⟨s, 8, none⟩ _ _ (by show _ ≠ s; omega)), fun i => by rw [World.frozen?_setCell]; exact h.fz i, h.lo, by simpa using h.sz⟩
  all_goals first
    | exact World.cell?_setCell_same' _ _ _ (by rw [c8]; rfl)
    | (rw [World.cell?_setCell_other _ _ _ _ (by intro e; injection e with _ e2 _; cases e2)]; assumption)
theorem BI.set9 (h : BI M br w s r kind area origin pa pn seq age lv sv cost tag W) (n : Int) : BI M br w s r kind area origin pa pn seq age lv sv n tag (W.setCell ⟨s, 9, none⟩ (.int .i64 n)) := by
  have hl := h.lo
  obtain ⟨c0, c1, c2, c3, c4, c5, c6, c7, c8, c9, c10⟩ := h.bx
  refine ⟨h.ri.high h.hM ((Below.refl _ W).setCell (p := ⟨s, 9, none⟩) (by show _ ≤ s; omega) _), h.hM, ⟨?_, ?_, ?_, ?_, ?_, ?_, ?_, ?_, ?_, ?_, ?_⟩, fun i => by rw [World.frozen?_setCell]; exact h.fx i, h.zx.blk (Below.heap_setCell W ⟨s, 9, none⟩ _ _ (by show _ ≠ s; omega)), fun i => by rw [World.frozen?_setCell]; exact h.fz i, h.lo, by simpa using h.sz⟩
  all_goals first
    | exact World.cell?_setCell_same' _ _ _ (by rw [c9]; rfl)
    | (rw [World.cell?_setCell_other _ _ _ _ (by intro e; injection e with _ e2 _; cases e2)]; assumption)
theorem BI.set10 (h : BI M br w s r kind area origin pa pn seq age lv sv cost tag W) (n : Int) : BI M br w s r kind area origin pa pn seq age lv sv cost n (W.setCell ⟨s, 10, none⟩ (.int .i64 n)) := by
  have hl := h.lo
  obtain ⟨c0, c1, c2, c3, c4, c5, c6, c7, c8, c9, c10⟩ := h.bx
  refine ⟨h.ri.high h.hM ((Below.refl _ W).setCell (p := ⟨s, 10, none⟩) (by show _ ≤ s; omega) _), h.hM, ⟨?_, ?_, ?_, ?_, ?_, ?_, ?_, ?_, ?_, ?_, ?_⟩, fun i => by rw [World.frozen?_setCell]; exact h.fx i, h.zx.blk (Below.heap_setCell W ⟨s, 10, none⟩ _ _ (by show _ ≠ s; omega)), fun i => by rw [World.frozen?_setCell]; exact h.fz i, h.lo, by simpa using h.sz⟩
  all_goals first
    | exact World.cell?_setCell_same' _ _ _ (by rw [c10]; rfl)
    | (rw [World.cell?_setCell_other _ _ _ _ (by intro e; injection e with _ e2 _; cases e2)]; assumption)
end
def S32 (xs : List (Int × Int × Int)) : Prop := ∀ d ∈ xs, In32 d.1
def decN {α : Type} (f : Rst → α × Rst) : Nat → Rst → List α × Rst
  | 0, r => ([], r)
  | n + 1, r => ((f r).1 :: (decN f n (f r).2).1, (decN f n (f r).2).2)
/-- what stands ahead of the lists, one number behind another -/
def hdR : List Nat → Rst → Rst
  | [], r => r
  | n :: ns, r => hdR ns (rdR n r)
def decL (r : Rst) : Lsa × Rst :=
  let l := decN decLk (rdV 1 (rdR 1 r)) (hdR [1, 1, 1, 1, 2, 2, 4, 4, 4, 4, 4] r)
  let s := decN decSt (rdV 1 (hdR [1, 1] r)) l.2
  (⟨(rdV 1 r : Nat), (rdV 2 (hdR [1, 1, 1, 1] r) : Nat), (rdV 4 (hdR [1, 1, 1, 1, 2, 2] r) : Nat), (rdV 4 (hdR [1, 1, 1, 1, 2, 2, 4, 4] r) : Nat), (rdV 1 (hdR [1, 1, 1] r) : Nat), (rdV 4 (hdR [1, 1, 1, 1, 2, 2, 4] r) : Nat), (rdV 2 (hdR [1, 1, 1, 1, 2] r) : Nat), (rdV 4 (hdR [1, 1, 1, 1, 2, 2, 4, 4, 4] r) : Nat), (rdV 4 (hdR [1, 1, 1, 1, 2, 2, 4, 4, 4, 4] r) : Nat), l.1, s.1⟩, s.2)
/-- items that the call has made -/
structure OwnT (N : Nat) (T : TypeId) (k : IntKind) (w : World) (v : Value) (xs : List (Int × Int × Int)) : Prop where
  row : w.ownsRow N T 3 v xs.length (tcs k xs)
theorem OwnT.blk {N : Nat} {T : TypeId} {k : IntKind} {w w' : World} {v : Value} {xs : List (Int × Int × Int)} (h : OwnT N T k w v xs) (hb : ∀ g, v.ownBlock = some g → w'.heap[g]? = w.heap[g]?) : OwnT N T k w' v xs := by
  refine ⟨h.row.1, ?_⟩
  rcases h.row.2 with h1 | ⟨g', cap', cur, h1, h2, h3, h4⟩
  · exact .inl h1
  · exact .inr ⟨g', cap', cur, h1, h2, (hb g' (by rw [h1]; rfl)).trans h3, h4⟩
theorem OwnT.mono {N N' : Nat} {T : TypeId} {k : IntKind} {w : World} {v : Value} {xs : List (Int × Int × Int)} (h : OwnT N T k w v xs) (hn : N' ≤ N) : OwnT N' T k w v xs := by
  refine ⟨h.row.1, ?_⟩
  rcases h.row.2 with h1 | ⟨g', cap', cur, h1, h2, h3⟩
  · exact .inl h1
  · exact .inr ⟨g', cap', cur, h1, Nat.le_trans hn h2, h3⟩
theorem OwnT.bel {N : Nat} {T : TypeId} {k : IntKind} {w w' : World} {v : Value} {xs : List (Int × Int × Int)} (h : OwnT N T k w v xs) (hb : Below w.heap.size w w') : OwnT N T k w' v xs :=
  h.blk (fun g e => hb.block g (h.row.lt g e).2)
theorem OwnT.kr {N br : Nat} {T : TypeId} {k : IntKind} {w w' : World} {v : Value} {xs : List (Int × Int × Int)} (h : OwnT N T k w v xs) (hb : Kr br w w') (hn : br < N) : OwnT N T k w' v xs :=
  h.blk (fun g e => hb.block g (h.row.lt g e).2 (by have := (h.row.lt g e).1; omega))
theorem OwnT.form {N : Nat} {T : TypeId} {k : IntKind} {w : World} {v : Value} {xs : List (Int × Int × Int)} (h : OwnT N T k w v xs) : ∃ a c, v = .slice a xs.length c := by
  rcases h.row.2 with ⟨h1, h2⟩ | ⟨g, cap, cur, h1, _⟩
  · exact ⟨_, _, by rw [h1, h2]⟩
  · exact ⟨_, _, h1⟩
theorem ownT_none (N : Nat) (T : TypeId) (k : IntKind) (w : World) : OwnT N T k w (.slice none 0 0) [] := ⟨World.ownsRow_nil _ _ _ _⟩
/-- one item that was just built is appended, as one step of a region that draws -/
theorem step_app1T {ops : Array Oper} {o : Oper} {a : Act} {Q : Exit → Act → World → Prop} {K : Act → World → Prop} {E : Prop} (hgd : o.guard = none) (s x : Operand) (t e : TypeId)
    (ho : o.op = .call { callee := .builtin .append, args := #[s, x], argTypes := #[t, t] }) (k : IntKind) (i : TypeInfo) (z : Value) (ht : Try.prog.underlying t = some (.slice e)) (hi : Try.prog.info? e = some i) (hz : i.zero = some z) (hs3 : i.size = 3) (hby : i.bytes ≤ 24) (hzs : z.cells.size = 3)
    (N : Nat) (v : Value) (xs : List (Int × Int × Int)) (y : Int × Int × Int) (hbig : xs.length ≤ 1048576) {w : World} (W : World) (hs : a.eval s = v) (hown : OwnT N e k W v xs)
    (hx : a.eval x = .slice (some ⟨w.heap.size, 0, none⟩) 1 1) (hN : N ≤ W.heap.size) (hW : W = w.alloc (Obj.cells #[.int k y.1, .int .i64 y.2.1, .int .i64 y.2.2] e))
    (h : ∀ v' w', Hid (OwnT N e k w' v' (xs ++ [y])) → Hid (W.grownBy w' v.ownBlock) → Hid (v'.ownBlock = v.ownBlock ∨ v'.ownBlock = some W.heap.size) → K (a.put o.dst v') w') :
    if Region.wanted o (yielded ops a.tmps) = true then Oper.wp Try.prog o a W K Q else E := by
  have hw : Region.wanted o (yielded ops a.tmps) = true := by simp [Region.wanted, hgd]
  rw [if_pos hw]
  have hnew : W.heap[w.heap.size]? = some (Obj.cells #[.int k y.1, .int .i64 y.2.1, .int .i64 y.2.2] e) := by rw [hW]; exact World.alloc_heap_new w _
  obtain ⟨c0, c1, c2⟩ := cells3 hnew
  obtain ⟨v', w', hr, h2, h3, h4, h5⟩ := run_append_own_at (P := Try.prog) W N t o.type e i z 3 i.bytes ht hi hz hs3 rfl hzs (by decide) v xs.length (tcs k xs) hown.row ⟨w.heap.size, 0, none⟩ 1 1 (tcs k [y]) rfl (by
      intro j u hj
      match j, hj with
      | 0, hj => cases hj; exact c0
      | 1, hj => cases hj; exact c1
      | 2, hj => cases hj; exact c2
      | j + 3, hj => simp [tcs] at hj) (tcs_one k _) (by unfold maxLen; omega) (by
      exact Nat.le_trans (Nat.mul_le_mul_left _ hby) (by omega)) hN
  unfold Oper.wp execOp
  simp only [ho, resolve, invoke, builtin, Sem.run_bind, Sem.run_pure, Result.andThen_ok, List.map_toArray, List.map_cons, List.map_nil, hs, hx, hr]
  exact h v' w' ⟨by rw [show tcs k (xs ++ [y]) = tcs k xs ++ tcs k [y] from List.flatMap_append, List.length_append]; exact h2⟩ h3 h5
theorem OwnT.set {N s i : Nat} {T : TypeId} {k : IntKind} {w : World} {v u : Value} {xs : List (Int × Int × Int)} (h : OwnT N T k w v xs) (hs : s < N) : OwnT N T k (w.setCell ⟨s, i, none⟩ u) v xs :=
  h.blk (fun g e => Below.heap_setCell w ⟨s, i, none⟩ u g (by show g ≠ s; have := (h.row.lt g e).1; omega))
theorem OwnT.grown {N : Nat} {T : TypeId} {k : IntKind} {w w' : World} {v : Value} {o : Option Nat} {xs : List (Int × Int × Int)} (h : OwnT N T k w v xs) (hg : w.grownBy w' o) (ho : ∀ g, v.ownBlock = some g → ¬ o = some g) : OwnT N T k w' v xs :=
  h.blk (fun g e => hg.block g (h.row.lt g e).2 (fun e2 => ho g e e2.symm))
theorem decN_snoc {α : Type} {f : Rst → α × Rst} {n k : Nat} {r rk : Rst} {xs : List α} {T : List α × Rst} (hk : k < n) (h : xs ++ (decN f (n - k) rk).1 = T.1 ∧ (decN f (n - k) rk).2 = T.2) : (xs ++ [(f rk).1]) ++ (decN f (n - (k + 1)) (f rk).2).1 = T.1 ∧ (decN f (n - (k + 1)) (f rk).2).2 = T.2 := by
  rw [show n - k = (n - (k + 1)) + 1 by omega] at h
  simp only [decN] at h
  exact ⟨by rw [List.append_assoc]; exact h.1, h.2⟩
set_option maxRecDepth 100000 in
set_option maxHeartbeats 8000000 in
theorem rann_any (M br : Nat) (w : World) (r : Rst) (h : Rd M w br r.1 r.2) (x : Lsa) (r' : Rst) (hd : decL r = (x, r')) :
    Calls Try.prog 57 #[.pointer (some ⟨br, 0, none⟩)] w fun e w' => ∃ la lc sa sc, e = .returned (lsaV x la lc sa sc) ∧ RI M br w r' w' ∧ OwnT (w.heap.size + 2) 54 .i64 w' (.slice la x.links.length lc) x.links ∧ OwnT (w.heap.size + 2) 56 .u32 w' (.slice sa x.stubs.length sc) x.stubs ∧ (∀ g, (Value.slice la x.links.length lc).ownBlock = some g → ¬ (Value.slice sa x.stubs.length sc).ownBlock = some g) ∧ In32 x.pa ∧ S32 x.stubs := by
  have hu8 : ∀ d ∈ r.1, d < 256 := by
    obtain ⟨va, cap, _, _, hb, _⟩ := h.rest
    exact hb.u8
  have hW : ∃ kind nl ns pn area age origin seq pa cost tag : Int, ∃ r1 r2 r3 r4 r5 r6 r7 r8 r9 r10 r11 : Rst, ∃ L S : List (Int × Int × Int) × Rst, ((rdV 1 r : Nat) : Int) = kind ∧ rdR 1 r = r1 ∧ ((rdV 1 r1 : Nat) : Int) = nl ∧ rdR 1 r1 = r2 ∧ ((rdV 1 r2 : Nat) : Int) = ns ∧ rdR 1 r2 = r3 ∧ ((rdV 1 r3 : Nat) : Int) = pn ∧ rdR 1 r3 = r4 ∧ ((rdV 2 r4 : Nat) : Int) = area ∧ rdR 2 r4 = r5 ∧ ((rdV 2 r5 : Nat) : Int) = age ∧ rdR 2 r5 = r6 ∧ ((rdV 4 r6 : Nat) : Int) = origin ∧ rdR 4 r6 = r7 ∧ ((rdV 4 r7 : Nat) : Int) = seq ∧ rdR 4 r7 = r8 ∧ ((rdV 4 r8 : Nat) : Int) = pa ∧ rdR 4 r8 = r9 ∧ ((rdV 4 r9 : Nat) : Int) = cost ∧ rdR 4 r9 = r10 ∧ ((rdV 4 r10 : Nat) : Int) = tag ∧ rdR 4 r10 = r11 ∧ decN decLk nl.toNat r11 = L ∧ decN decSt ns.toNat L.2 = S ∧ x = ⟨kind, area, origin, pa, pn, seq, age, cost, tag, L.1, S.1⟩ ∧ r' = S.2 := by
    injection hd with h1 h2
    refine ⟨_, _, _, _, _, _, _, _, _, _, _, _, _, _, _, _, _, _, _, _, _, _, _, _, rfl, rfl, rfl, rfl, rfl, rfl, rfl, rfl, rfl, rfl, rfl, rfl, rfl, rfl, rfl, rfl, rfl, rfl, rfl, rfl, rfl, rfl, rfl, rfl, h1.symm.trans ?_, h2.symm⟩
    rfl
  obtain ⟨kind, nl, ns, pn, area, age, origin, seq, pa, cost, tag, r1, r2, r3, r4, r5, r6, r7, r8, r9, r10, r11, L, S, e0, q0, e1, q1, e2, q2, e3, q3, e4, q4, e5, q5, e6, q6, e7, q7, e8, q8, e9, q9, e10, q10, hL, hS, rfl, rfl⟩ := hW
  dsimp only
  have hu : ∀ {n : Nat} {r1 : Rst}, (∀ d ∈ r1.1, d < 256) → ∀ d ∈ (rdR n r1).1, d < 256 := fun {n} {r1} h1 d hd => by
    unfold rdR at hd
    split at hd
    · exact h1 d (List.mem_of_mem_drop hd)
    · cases hd
  have hu1 : ∀ d ∈ r1.1, d < 256 := q0 ▸ hu hu8
  have hu2 : ∀ d ∈ r2.1, d < 256 := q1 ▸ hu hu1
  have hu3 : ∀ d ∈ r3.1, d < 256 := q2 ▸ hu hu2
  have hu4 : ∀ d ∈ r4.1, d < 256 := q3 ▸ hu hu3
  have hu5 : ∀ d ∈ r5.1, d < 256 := q4 ▸ hu hu4
  have hu6 : ∀ d ∈ r6.1, d < 256 := q5 ▸ hu hu5
  have hu7 : ∀ d ∈ r7.1, d < 256 := q6 ▸ hu hu6
  have hu8x : ∀ d ∈ r8.1, d < 256 := q7 ▸ hu hu7
  have hnl : 0 ≤ nl ∧ nl < 256 := by have h1 := rdV_lt hu1 1; rw [← e1]; omega
  have hns : 0 ≤ ns ∧ ns < 256 := by have h1 := rdV_lt hu2 1; rw [← e2]; omega
  have hpa : 0 ≤ pa ∧ pa < 4294967296 := by have h1 : rdV 4 r8 < 4294967296 := rdV_lt hu8x 4; rw [← e8]; omega
  have HL : Hid (decN decLk nl.toNat r11 = L) := hL
  have HS : Hid (decN decSt ns.toNat L.2 = S) := hS
  have HPA : Hid (pa % 4294967296 = pa) := by show _ = _; omega
  have hM : M ≤ w.heap.size := h.le
  have hbr : br < M := h.lt
  have HH : Hid (RI M br w r w) := ⟨h, Kr.refl _ _⟩
  have E0 : Hid (((rdV 1 r : Nat) : Int) = kind) := e0
  have Q0 : Hid (rdR 1 r = r1) := q0
  have E1 : Hid (((rdV 1 r1 : Nat) : Int) = nl) := e1
  have Q1 : Hid (rdR 1 r1 = r2) := q1
  have E2 : Hid (((rdV 1 r2 : Nat) : Int) = ns) := e2
  have Q2 : Hid (rdR 1 r2 = r3) := q2
  have E3 : Hid (((rdV 1 r3 : Nat) : Int) = pn) := e3
  have Q3 : Hid (rdR 1 r3 = r4) := q3
  have E4 : Hid (((rdV 2 r4 : Nat) : Int) = area) := e4
  have Q4 : Hid (rdR 2 r4 = r5) := q4
  have E5 : Hid (((rdV 2 r5 : Nat) : Int) = age) := e5
  have Q5 : Hid (rdR 2 r5 = r6) := q5
  have E6 : Hid (((rdV 4 r6 : Nat) : Int) = origin) := e6
  have Q6 : Hid (rdR 4 r6 = r7) := q6
  have E7 : Hid (((rdV 4 r7 : Nat) : Int) = seq) := e7
  have Q7 : Hid (rdR 4 r7 = r8) := q7
  have E8 : Hid (((rdV 4 r8 : Nat) : Int) = pa) := e8
  have Q8 : Hid (rdR 4 r8 = r9) := q8
  have E9 : Hid (((rdV 4 r9 : Nat) : Int) = cost) := e9
  have Q9 : Hid (rdR 4 r9 = r10) := q9
  have E10 : Hid (((rdV 4 r10 : Nat) : Int) = tag) := e10
  have Q10 : Hid (rdR 4 r10 = r11) := q10
  clear hu hu8 hu1 hu2 hu3 hu4 hu5 hu6 hu7 hu8x hd h hL hS e0 q0 e1 q1 e2 q2 e3 q3 e4 q4 e5 q5 e6 q6 e7 q7 e8 q8 e9 q9 e10 q10
  go_enter Try.func57, Try.ntmps57
  go_wp2_with fail
  obtain ⟨wA, hwA⟩ : ∃ wA, w.alloc (Obj.cells #[.int .i64 0, .int .i64 0, .int .i64 0, .int .u32 0, .int .i64 0, .int .i64 0, .int .i64 0, .slice none 0 0, .slice none 0 0, .int .i64 0, .int .i64 0] 28) = wA := ⟨_, rfl⟩
  have hbx := lbox_new hwA
  have HZA : Hid (LBox w.heap.size 0 0 0 0 0 0 0 (.slice none 0 0) (.slice none 0 0) 0 0 wA) := hbx.1
  have HFA : Hid (∀ i, wA.frozen? ⟨w.heap.size, i, none⟩ = false) := fun i => by rw [← hwA]; simp
  have hsA : wA.heap.size = w.heap.size + 1 := by rw [← hwA]; simp
  have HIA : Hid (RI M br w r wA) := HH.out.low hbx.2
  rw [hwA]
  clear hwA hbx
  refine (HIA.out.numL 1 1 rfl (by decide) (by decide) kind E0.out r1 Q0.out).mono ?_
  rintro e w1 ⟨rfl, hi1, hk1⟩
  have hs1 : w.heap.size + 1 ≤ w1.heap.size := by have := hk1.str.size; omega
  have hkk : w1.heap[w.heap.size]? = wA.heap[w.heap.size]? := hk1.block _ (by omega) (by omega)
  have HI1 : Hid (RI M br w r1 w1) := hi1
  have HZ1 : Hid (LBox w.heap.size 0 0 0 0 0 0 0 (.slice none 0 0) (.slice none 0 0) 0 0 w1) := HZA.out.blk hkk
  have HF1 : Hid (∀ i, w1.frozen? ⟨w.heap.size, i, none⟩ = false) := fun i => (World.frozen?_of_block (w := wA) hkk).trans (HFA.out i)
  clear hi1 hk1 hkk hsA HIA HZA HFA
  go_wp2_with fail
  obtain ⟨wB, hwB⟩ : ∃ wB, w1.alloc (Obj.cells #[.int .i64 kind, .int .i64 0, .int .i64 0, .int .u32 0, .int .i64 0, .int .i64 0, .int .i64 0, .slice none 0 0, .slice none 0 0, .int .i64 0, .int .i64 0] 28) = wB := ⟨_, rfl⟩
  obtain ⟨s, hs⟩ : ∃ s, w1.heap.size = s := ⟨_, rfl⟩
  rw [hs] at hs1
  have hbx := lbox_new hwB
  rw [hs] at hbx
  have B0 : Hid (BI M br w s r1 kind 0 0 0 0 0 0 (.slice none 0 0) (.slice none 0 0) 0 0 wB) := by
    have hb2 : Below w1.heap.size w1 wB := by rw [hs]; exact hbx.2
    refine ⟨HI1.out.low hb2, hM, hbx.1, fun i => by rw [← hwB, ← hs]; simp, HZ1.out.bel hb2, fun i => (Below.frozen (p := ⟨w.heap.size, i, none⟩) hb2 (by show w.heap.size < _; omega)).trans (HF1.out i), by omega, by rw [← hwB, ← hs]; simp⟩
  rw [hwB, hs]
  clear hwB hbx HI1 HZ1 HF1
  refine (B0.out.num 1 1 rfl (by decide) (by decide) nl E1.out r2 Q1.out).mono ?_
  rintro e y1 ⟨rfl, hb1, hk1⟩
  have C1 : Hid (BI M br w s r2 kind 0 0 0 0 0 0 (.slice none 0 0) (.slice none 0 0) 0 0 y1) := hb1
  clear hb1 hk1 B0
  obtain ⟨c0, c1, c2, c3, c4, c5, c6, c7, c8, c9, c10⟩ := C1.out.bx
  have fx := C1.out.fx
  have B1 : Hid (BI M br w s r2 kind 0 0 0 0 0 0 (.slice none 0 0) (.slice none 0 0) 0 0 y1) := C1.out
  go_wp2_with fail
  clear c0 c1 c2 c3 c4 c5 c6 c7 c8 c9 c10 fx C1
  refine (B1.out.num 1 1 rfl (by decide) (by decide) ns E2.out r3 Q2.out).mono ?_
  rintro e y2 ⟨rfl, hb1, hk1⟩
  have C2 : Hid (BI M br w s r3 kind 0 0 0 0 0 0 (.slice none 0 0) (.slice none 0 0) 0 0 y2) := hb1
  clear hb1 hk1 B1
  obtain ⟨c0, c1, c2, c3, c4, c5, c6, c7, c8, c9, c10⟩ := C2.out.bx
  have fx := C2.out.fx
  have B2 : Hid (BI M br w s r3 kind 0 0 0 0 0 0 (.slice none 0 0) (.slice none 0 0) 0 0 y2) := C2.out
  go_wp2_with fail
  clear c0 c1 c2 c3 c4 c5 c6 c7 c8 c9 c10 fx C2
  refine (B2.out.num 1 1 rfl (by decide) (by decide) pn E3.out r4 Q3.out).mono ?_
  rintro e y3 ⟨rfl, hb1, hk1⟩
  have C3 : Hid (BI M br w s r4 kind 0 0 0 0 0 0 (.slice none 0 0) (.slice none 0 0) 0 0 y3) := hb1
  clear hb1 hk1 B2
  obtain ⟨c0, c1, c2, c3, c4, c5, c6, c7, c8, c9, c10⟩ := C3.out.bx
  have fx := C3.out.fx
  have B3 : Hid (BI M br w s r4 kind 0 0 0 pn 0 0 (.slice none 0 0) (.slice none 0 0) 0 0 (y3.setCell ⟨s, 4, none⟩ (.int .i64 pn))) := (C3.out.set4 pn)
  go_wp2_with fail
  clear c0 c1 c2 c3 c4 c5 c6 c7 c8 c9 c10 fx C3
  refine (B3.out.num 2 2 rfl (by decide) (by decide) area E4.out r5 Q4.out).mono ?_
  rintro e y4 ⟨rfl, hb1, hk1⟩
  have C4 : Hid (BI M br w s r5 kind 0 0 0 pn 0 0 (.slice none 0 0) (.slice none 0 0) 0 0 y4) := hb1
  clear hb1 hk1 B3
  obtain ⟨c0, c1, c2, c3, c4, c5, c6, c7, c8, c9, c10⟩ := C4.out.bx
  have fx := C4.out.fx
  have B4 : Hid (BI M br w s r5 kind 0 0 0 pn 0 0 (.slice none 0 0) (.slice none 0 0) 0 0 y4) := C4.out
  go_wp2_with fail
  clear c0 c1 c2 c3 c4 c5 c6 c7 c8 c9 c10 fx C4
  refine (B4.out.num 2 2 rfl (by decide) (by decide) age E5.out r6 Q5.out).mono ?_
  rintro e y5 ⟨rfl, hb1, hk1⟩
  have C5 : Hid (BI M br w s r6 kind 0 0 0 pn 0 0 (.slice none 0 0) (.slice none 0 0) 0 0 y5) := hb1
  clear hb1 hk1 B4
  obtain ⟨c0, c1, c2, c3, c4, c5, c6, c7, c8, c9, c10⟩ := C5.out.bx
  have fx := C5.out.fx
  have B5 : Hid (BI M br w s r6 kind area 0 0 pn 0 age (.slice none 0 0) (.slice none 0 0) 0 0 ((y5.setCell ⟨s, 1, none⟩ (.int .i64 area)).setCell ⟨s, 6, none⟩ (.int .i64 age))) := ((C5.out.set1 area).set6 age)
  go_wp2_with fail
  clear c0 c1 c2 c3 c4 c5 c6 c7 c8 c9 c10 fx C5
  refine (B5.out.num 4 4 rfl (by decide) (by decide) origin E6.out r7 Q6.out).mono ?_
  rintro e y6 ⟨rfl, hb1, hk1⟩
  have C6 : Hid (BI M br w s r7 kind area 0 0 pn 0 age (.slice none 0 0) (.slice none 0 0) 0 0 y6) := hb1
  clear hb1 hk1 B5
  obtain ⟨c0, c1, c2, c3, c4, c5, c6, c7, c8, c9, c10⟩ := C6.out.bx
  have fx := C6.out.fx
  have B6 : Hid (BI M br w s r7 kind area 0 0 pn 0 age (.slice none 0 0) (.slice none 0 0) 0 0 y6) := C6.out
  go_wp2_with fail
  clear c0 c1 c2 c3 c4 c5 c6 c7 c8 c9 c10 fx C6
  refine (B6.out.num 4 4 rfl (by decide) (by decide) seq E7.out r8 Q7.out).mono ?_
  rintro e y7 ⟨rfl, hb1, hk1⟩
  have C7 : Hid (BI M br w s r8 kind area 0 0 pn 0 age (.slice none 0 0) (.slice none 0 0) 0 0 y7) := hb1
  clear hb1 hk1 B6
  obtain ⟨c0, c1, c2, c3, c4, c5, c6, c7, c8, c9, c10⟩ := C7.out.bx
  have fx := C7.out.fx
  have B7 : Hid (BI M br w s r8 kind area origin 0 pn seq age (.slice none 0 0) (.slice none 0 0) 0 0 ((y7.setCell ⟨s, 2, none⟩ (.int .i64 origin)).setCell ⟨s, 5, none⟩ (.int .i64 seq))) := ((C7.out.set2 origin).set5 seq)
  go_wp2_with fail
  clear c0 c1 c2 c3 c4 c5 c6 c7 c8 c9 c10 fx C7
  refine (B7.out.num 4 4 rfl (by decide) (by decide) pa E8.out r9 Q8.out).mono ?_
  rintro e y8 ⟨rfl, hb1, hk1⟩
  have C8 : Hid (BI M br w s r9 kind area origin 0 pn seq age (.slice none 0 0) (.slice none 0 0) 0 0 y8) := hb1
  clear hb1 hk1 B7
  obtain ⟨c0, c1, c2, c3, c4, c5, c6, c7, c8, c9, c10⟩ := C8.out.bx
  have fx := C8.out.fx
  have B8 : Hid (BI M br w s r9 kind area origin pa pn seq age (.slice none 0 0) (.slice none 0 0) 0 0 (y8.setCell ⟨s, 3, none⟩ (.int .u32 pa))) := (C8.out.set3 pa)
  go_wp2_with fail
  clear c0 c1 c2 c3 c4 c5 c6 c7 c8 c9 c10 fx C8
  refine (B8.out.num 4 4 rfl (by decide) (by decide) cost E9.out r10 Q9.out).mono ?_
  rintro e y9 ⟨rfl, hb1, hk1⟩
  have C9 : Hid (BI M br w s r10 kind area origin pa pn seq age (.slice none 0 0) (.slice none 0 0) 0 0 y9) := hb1
  clear hb1 hk1 B8
  obtain ⟨c0, c1, c2, c3, c4, c5, c6, c7, c8, c9, c10⟩ := C9.out.bx
  have fx := C9.out.fx
  have B9 : Hid (BI M br w s r10 kind area origin pa pn seq age (.slice none 0 0) (.slice none 0 0) 0 0 y9) := C9.out
  go_wp2_with fail
  clear c0 c1 c2 c3 c4 c5 c6 c7 c8 c9 c10 fx C9
  refine (B9.out.num 4 4 rfl (by decide) (by decide) tag E10.out r11 Q10.out).mono ?_
  rintro e y10 ⟨rfl, hb1, hk1⟩
  have C10 : Hid (BI M br w s r11 kind area origin pa pn seq age (.slice none 0 0) (.slice none 0 0) 0 0 y10) := hb1
  clear hb1 hk1 B9
  obtain ⟨c0, c1, c2, c3, c4, c5, c6, c7, c8, c9, c10⟩ := C10.out.bx
  have fx := C10.out.fx
  have B10 : Hid (BI M br w s r11 kind area origin pa pn seq age (.slice none 0 0) (.slice none 0 0) cost tag ((y10.setCell ⟨s, 9, none⟩ (.int .i64 cost)).setCell ⟨s, 10, none⟩ (.int .i64 tag))) := ((C10.out.set9 cost).set10 tag)
  go_wp2_with fail
  clear c0 c1 c2 c3 c4 c5 c6 c7 c8 c9 c10 fx C10
  go_loopw [41] (fun iv wr => ∃ (k : Nat) (xs : List (Int × Int × Int)) (rk : Rst) (uv : Value), (k : Int) ≤ nl ∧ iv = .int .i64 k ∧ xs.length = k ∧ BI M br w s rk kind area origin pa pn seq age uv (.slice none 0 0) cost tag wr ∧ OwnT (s + 1) 54 .i64 wr uv xs ∧ (xs ++ (decN decLk (nl.toNat - k) rk).1 = L.1 ∧ (decN decLk (nl.toNat - k) rk).2 = L.2)) (fun i _ => nl.toNat - (intOf i).toNat)
  case atStart => exact ⟨0, [], r11, .slice none 0 0, by omega, rfl, rfl, B10.out, ownT_none _ _ _ _, by rw [Nat.sub_zero, HL.out]; exact ⟨rfl, rfl⟩⟩
  case round =>
    obtain ⟨k, xs, rk, uv, hk, rfl, hxl, hbi, how, hdec⟩ := hrel
    have HBI : Hid (BI M br w s rk kind area origin pa pn seq age uv (.slice none 0 0) cost tag wr) := hbi
    have HOW : Hid (OwnT (s + 1) 54 .i64 wr uv xs) := how
    have HXL : Hid (xs.length = k) := hxl
    have HD : Hid (xs ++ (decN decLk (nl.toNat - k) rk).1 = L.1 ∧ (decN decLk (nl.toNat - k) rk).2 = L.2) := hdec
    clear hbi how hxl hdec B10
    by_cases hlt : (k : Int) < nl
    · have hbig : xs.length ≤ 1048576 := by rw [HXL.out]; omega
      obtain ⟨⟨⟨xa, xb, xc⟩, rc⟩, hy⟩ : ∃ y, decLk rk = y := ⟨_, rfl⟩
      have HNX : Hid ((xs ++ [(xa, xb, xc)]) ++ (decN decLk (nl.toNat - (k + 1)) rc).1 = L.1 ∧ (decN decLk (nl.toNat - (k + 1)) rc).2 = L.2) := by
        have := decN_snoc (r := rk) (by omega) HD.out
        rw [hy] at this
        exact this
      clear HD
      unfold decLk at hy
      injection hy with hy1 hy2
      injection hy1 with hya hy1
      injection hy1 with hyb hyc
      obtain ⟨ra, hra⟩ : ∃ r, rdR 4 rk = r := ⟨_, rfl⟩
      rw [hra] at hyb hyc hy2
      obtain ⟨rb, hrb⟩ : ∃ r, rdR 2 ra = r := ⟨_, rfl⟩
      rw [hrb] at hyc hy2
      have XE0 : Hid (((rdV 4 rk : Nat) : Int) = xa) := hya
      have XE1 : Hid (((rdV 2 ra : Nat) : Int) = xb) := hyb
      have XE2 : Hid (((rdV 2 rb : Nat) : Int) = xc) := hyc
      have XQ0 : Hid (rdR 4 rk = ra) := hra
      have XQ1 : Hid (rdR 2 ra = rb) := hrb
      have XQ2 : Hid (rdR 2 rb = rc) := hy2
      clear hya hyb hyc hra hrb hy2
      obtain ⟨i0, hi, hz0, hz1, hz2⟩ := info_parts infoLk
      go_wp2_with fail
      refine wp_region_held_drew (S := fun _ => True) (by kernel_rfl) trivial (fun hHeld => ?_)
      obtain ⟨wD, hwD⟩ : ∃ wD, wr.drew = wD := ⟨_, rfl⟩
      have BIwD : Hid (BI M br w s rk kind area origin pa pn seq age uv (.slice none 0 0) cost tag wD) := by rw [← hwD]; exact HBI.out.drew
      have OWwD : Hid (OwnT (s + 1) 54 .i64 wD uv xs) := by rw [← hwD]; exact HOW.out.bel (drew_bel wr)
      rw [hwD]
      clear hwD
      refine wpAnyH_take (i := 0) (v := ?_) rfl (by kernel_rfl) (by kernel_rfl) (by kernel_rfl) (fun _ _ _ h => h) (Or.inl ⟨by rfl, ?_⟩) (by assumption) ?_
      case refine_2 => intro W hSw; go_simp; try rfl
      try simp only [Act.put, List.getElem_toArray, List.getElem_cons_zero, List.setIfInBounds_toArray, List.set_cons_zero, List.set_cons_succ]
      refine wpAnyH_take (i := 2) (v := ?_) rfl (by kernel_rfl) (by kernel_rfl) (by kernel_rfl) (fun _ _ _ h => h) (Or.inl ⟨by rfl, ?_⟩) (by assumption) ?_
      case refine_2 => intro W hSw; go_simp; try rfl
      try simp only [Act.put, List.getElem_toArray, List.getElem_cons_zero, List.getElem_cons_succ, List.setIfInBounds_toArray, List.set_cons_zero, List.set_cons_succ]
      refine wpAnyH_take (i := 4) (v := ?_) rfl (by kernel_rfl) (by kernel_rfl) (by kernel_rfl) (fun _ _ _ h => h) (Or.inl ⟨by rfl, ?_⟩) (by assumption) ?_
      case refine_2 => intro W hSw; go_simp; try rfl
      try simp only [Act.put, List.getElem_toArray, List.getElem_cons_zero, List.getElem_cons_succ, List.setIfInBounds_toArray, List.set_cons_zero, List.set_cons_succ]
      refine wpAnyH_take (i := 6) (v := ?_) rfl (by kernel_rfl) (by kernel_rfl) (by kernel_rfl) (fun _ _ _ h => h) (Or.inl ⟨by rfl, ?_⟩) (by assumption) ?_
      case refine_2 => intro W hSw; go_simp; try rfl
      try simp only [Act.put, List.getElem_toArray, List.getElem_cons_zero, List.getElem_cons_succ, List.setIfInBounds_toArray, List.set_cons_zero, List.set_cons_succ]
      refine wpAnyH_ready (rs := [1, 3]) (by kernel_rfl) (by simp) ?_
      refine AllReadyH.cons rfl (fun K hK => ?_) (AllReadyH.cons rfl (fun K hK => ?_) AllReadyH.nil)
      · have d7 := BIwD.out.bx.c7
        go_simp
        refine hK.out _ _ trivial (fun hHeld => ?_)
        clear hK K
        try simp only [Act.put, List.getElem_toArray, List.getElem_cons_zero, List.getElem_cons_succ, List.setIfInBounds_toArray, List.set_cons_zero, List.set_cons_succ]
        clear d7
        refine wpAnyH_ready (rs := [3]) (by kernel_rfl) (by simp) ?_
        refine AllReadyH.cons rfl (fun K hK => ?_) AllReadyH.nil
        go_simp
        refine (BIwD.out.num 4 4 rfl (by decide) (by decide) xa XE0.out ra XQ0.out).mono ?_
        rintro e v2 ⟨rfl, hb1, hk1⟩
        have BIv2 : Hid (BI M br w s ra kind area origin pa pn seq age uv (.slice none 0 0) cost tag v2) := hb1
        have OWv2 : Hid (OwnT (s + 1) 54 .i64 v2 uv xs) := OWwD.out.kr hk1 (by omega)
        clear hb1 hk1
        go_wp2_with fail
        refine hK.out _ _ trivial (fun hHeld => ?_)
        clear hK K
        try simp only [Act.put, List.getElem_toArray, List.getElem_cons_zero, List.getElem_cons_succ, List.setIfInBounds_toArray, List.set_cons_zero, List.set_cons_succ]
        refine wpAnyH_ready (rs := [5]) (by kernel_rfl) (by simp) ?_
        refine AllReadyH.cons rfl (fun K hK => ?_) AllReadyH.nil
        go_simp
        refine (BIv2.out.num 2 2 rfl (by decide) (by decide) xb XE1.out rb XQ1.out).mono ?_
        rintro e v3 ⟨rfl, hb1, hk1⟩
        have BIv3 : Hid (BI M br w s rb kind area origin pa pn seq age uv (.slice none 0 0) cost tag v3) := hb1
        have OWv3 : Hid (OwnT (s + 1) 54 .i64 v3 uv xs) := OWv2.out.kr hk1 (by omega)
        clear hb1 hk1
        go_wp2_with fail
        refine hK.out _ _ trivial (fun hHeld => ?_)
        clear hK K
        try simp only [Act.put, List.getElem_toArray, List.getElem_cons_zero, List.getElem_cons_succ, List.setIfInBounds_toArray, List.set_cons_zero, List.set_cons_succ]
        refine wpAnyH_ready (rs := [7]) (by kernel_rfl) (by simp) ?_
        refine AllReadyH.cons rfl (fun K hK => ?_) AllReadyH.nil
        go_simp
        refine (BIv3.out.num 2 2 rfl (by decide) (by decide) xc XE2.out rc XQ2.out).mono ?_
        rintro e v4 ⟨rfl, hb1, hk1⟩
        have BIv4 : Hid (BI M br w s rc kind area origin pa pn seq age uv (.slice none 0 0) cost tag v4) := hb1
        have OWv4 : Hid (OwnT (s + 1) 54 .i64 v4 uv xs) := OWv3.out.kr hk1 (by omega)
        clear hb1 hk1
        go_wp2_with fail
        refine hK.out _ _ trivial (fun hHeld => ?_)
        clear hK K
        try simp only [Act.put, List.getElem_toArray, List.getElem_cons_zero, List.getElem_cons_succ, List.setIfInBounds_toArray, List.set_cons_zero, List.set_cons_succ]
        refine wpAnyH_take (i := 8) (v := ?_) rfl (by kernel_rfl) (by kernel_rfl) (by kernel_rfl) (fun _ _ _ h => h) (Or.inl ⟨by rfl, ?_⟩) (by assumption) ?_
        case refine_2 => intro W hSw; go_simp; try rfl
        try simp only [Act.put, List.getElem_toArray, List.getElem_cons_zero, List.getElem_cons_succ, List.setIfInBounds_toArray, List.set_cons_zero, List.set_cons_succ]
        refine wpAnyH_ready (rs := [9]) (by kernel_rfl) (by simp) ?_
        refine AllReadyH.cons rfl (fun K hK => ?_) AllReadyH.nil
        go_simp
        obtain ⟨v5, hV⟩ : ∃ v5, v4.alloc (Obj.cells #[.int .i64 xa, .int .i64 xb, .int .i64 xc] 54) = v5 := ⟨_, rfl⟩
        have hbV : Below v4.heap.size v4 v5 := by rw [← hV]; exact (Below.refl _ v4).alloc (Nat.le_refl _) _
        have BIv5 : Hid (BI M br w s rc kind area origin pa pn seq age uv (.slice none 0 0) cost tag v5) := BIv4.out.bel hbV
        have OWv5 : Hid (OwnT (s + 1) 54 .i64 v5 uv xs) := OWv4.out.bel hbV
        have HV : Hid (v4.alloc (Obj.cells #[.int .i64 xa, .int .i64 xb, .int .i64 xc] 54) = v5) := hV
        obtain ⟨u, hu⟩ : ∃ u, v4.heap.size = u := ⟨_, rfl⟩
        have HU : Hid (v4.heap.size = u) := hu
        rw [hV, hu]
        clear hV hbV hu
        refine hK.out _ _ trivial (fun hHeld => ?_)
        clear hK K
        try simp only [Act.put, List.getElem_toArray, List.getElem_cons_zero, List.getElem_cons_succ, List.setIfInBounds_toArray, List.set_cons_zero, List.set_cons_succ]
        refine wpAnyH_ready (rs := [10]) (by kernel_rfl) (by simp) ?_
        refine AllReadyH.cons rfl (fun K hK => ?_) AllReadyH.nil
        refine step_app1T rfl _ _ 25 54 rfl .i64 i0 _ Try.underlying25 hi hz0 hz1 (by omega) rfl (s + 1) uv xs (xa, xb, xc) hbig (w := v4) v5 rfl OWv5.out (by rw [HU.out]; rfl) (by have := BIv5.out.sz; omega) HV.out.symm ?_
        intro v' w' ho' hg' hat'
        have BIz : Hid (BI M br w s rc kind area origin pa pn seq age uv (.slice none 0 0) cost tag w') := BIv5.out.grown hg'.out (fun g e => (OWv5.out.row.lt g e).1)
        obtain ⟨va', vc', hv'⟩ := ho'.out.form
        obtain ⟨q, hq⟩ : ∃ q, (xs ++ [(xa, xb, xc)]).length = q := ⟨_, rfl⟩
        rw [hq] at hv'
        subst hv'
        clear hq
        have d7 := BIz.out.bx.c7
        have dz := BIz.out.fx 7
        refine hK.out _ _ trivial (fun hHeld => ?_)
        clear hK K
        try simp only [Act.put, List.getElem_toArray, List.getElem_cons_zero, List.getElem_cons_succ, List.setIfInBounds_toArray, List.set_cons_zero, List.set_cons_succ]
        refine wpAnyH_take (i := 11) (v := ?_) rfl (by kernel_rfl) (by kernel_rfl) (by kernel_rfl) (fun _ _ _ h => h) (Or.inl ⟨by rfl, ?_⟩) (by assumption) ?_
        case refine_2 => intro W hSw; go_simp; try rfl
        try simp only [Act.put, List.getElem_toArray, List.getElem_cons_zero, List.getElem_cons_succ, List.setIfInBounds_toArray, List.set_cons_zero, List.set_cons_succ]
        refine wpAnyH_ready (rs := [12]) (by kernel_rfl) (by simp) ?_
        refine AllReadyH.cons rfl (fun K hK => ?_) AllReadyH.nil
        go_simp
        refine hK.out _ _ trivial (fun hHeld => ?_)
        clear hK K
        try simp only [Act.put, List.getElem_toArray, List.getElem_cons_zero, List.getElem_cons_succ, List.setIfInBounds_toArray, List.set_cons_zero, List.set_cons_succ]
        refine wpAnyH_done (by kernel_rfl) ?_ _
        have BIy := BIz.out.set7 (.slice va' q vc')
        have OWy := ho'.out.set (i := 7) (u := .slice va' q vc') (Nat.lt_succ_self s)
        clear d7 dz
        go_wp2_with fail
        exact ⟨⟨k + 1, xs ++ [(xa, xb, xc)], rc, _, by omega, by simp, by rw [List.length_append, HXL.out]; rfl, BIy, OWy, HNX.out⟩, by simp [intOf]; omega⟩
      · go_simp
        refine (BIwD.out.num 4 4 rfl (by decide) (by decide) xa XE0.out ra XQ0.out).mono ?_
        rintro e v6 ⟨rfl, hb1, hk1⟩
        have BIv6 : Hid (BI M br w s ra kind area origin pa pn seq age uv (.slice none 0 0) cost tag v6) := hb1
        have OWv6 : Hid (OwnT (s + 1) 54 .i64 v6 uv xs) := OWwD.out.kr hk1 (by omega)
        clear hb1 hk1
        go_wp2_with fail
        refine hK.out _ _ trivial (fun hHeld => ?_)
        clear hK K
        try simp only [Act.put, List.getElem_toArray, List.getElem_cons_zero, List.getElem_cons_succ, List.setIfInBounds_toArray, List.set_cons_zero, List.set_cons_succ]
        refine wpAnyH_ready (rs := [1, 5]) (by kernel_rfl) (by simp) ?_
        refine AllReadyH.cons rfl (fun K hK => ?_) (AllReadyH.cons rfl (fun K hK => ?_) AllReadyH.nil)
        · have d7 := BIv6.out.bx.c7
          go_simp
          refine hK.out _ _ trivial (fun hHeld => ?_)
          clear hK K
          try simp only [Act.put, List.getElem_toArray, List.getElem_cons_zero, List.getElem_cons_succ, List.setIfInBounds_toArray, List.set_cons_zero, List.set_cons_succ]
          clear d7
          refine wpAnyH_ready (rs := [5]) (by kernel_rfl) (by simp) ?_
          refine AllReadyH.cons rfl (fun K hK => ?_) AllReadyH.nil
          go_simp
          refine (BIv6.out.num 2 2 rfl (by decide) (by decide) xb XE1.out rb XQ1.out).mono ?_
          rintro e v8 ⟨rfl, hb1, hk1⟩
          have BIv8 : Hid (BI M br w s rb kind area origin pa pn seq age uv (.slice none 0 0) cost tag v8) := hb1
          have OWv8 : Hid (OwnT (s + 1) 54 .i64 v8 uv xs) := OWv6.out.kr hk1 (by omega)
          clear hb1 hk1
          go_wp2_with fail
          refine hK.out _ _ trivial (fun hHeld => ?_)
          clear hK K
          try simp only [Act.put, List.getElem_toArray, List.getElem_cons_zero, List.getElem_cons_succ, List.setIfInBounds_toArray, List.set_cons_zero, List.set_cons_succ]
          refine wpAnyH_ready (rs := [7]) (by kernel_rfl) (by simp) ?_
          refine AllReadyH.cons rfl (fun K hK => ?_) AllReadyH.nil
          go_simp
          refine (BIv8.out.num 2 2 rfl (by decide) (by decide) xc XE2.out rc XQ2.out).mono ?_
          rintro e v9 ⟨rfl, hb1, hk1⟩
          have BIv9 : Hid (BI M br w s rc kind area origin pa pn seq age uv (.slice none 0 0) cost tag v9) := hb1
          have OWv9 : Hid (OwnT (s + 1) 54 .i64 v9 uv xs) := OWv8.out.kr hk1 (by omega)
          clear hb1 hk1
          go_wp2_with fail
          refine hK.out _ _ trivial (fun hHeld => ?_)
          clear hK K
          try simp only [Act.put, List.getElem_toArray, List.getElem_cons_zero, List.getElem_cons_succ, List.setIfInBounds_toArray, List.set_cons_zero, List.set_cons_succ]
          refine wpAnyH_take (i := 8) (v := ?_) rfl (by kernel_rfl) (by kernel_rfl) (by kernel_rfl) (fun _ _ _ h => h) (Or.inl ⟨by rfl, ?_⟩) (by assumption) ?_
          case refine_2 => intro W hSw; go_simp; try rfl
          try simp only [Act.put, List.getElem_toArray, List.getElem_cons_zero, List.getElem_cons_succ, List.setIfInBounds_toArray, List.set_cons_zero, List.set_cons_succ]
          refine wpAnyH_ready (rs := [9]) (by kernel_rfl) (by simp) ?_
          refine AllReadyH.cons rfl (fun K hK => ?_) AllReadyH.nil
          go_simp
          obtain ⟨v10, hV⟩ : ∃ v10, v9.alloc (Obj.cells #[.int .i64 xa, .int .i64 xb, .int .i64 xc] 54) = v10 := ⟨_, rfl⟩
          have hbV : Below v9.heap.size v9 v10 := by rw [← hV]; exact (Below.refl _ v9).alloc (Nat.le_refl _) _
          have BIv10 : Hid (BI M br w s rc kind area origin pa pn seq age uv (.slice none 0 0) cost tag v10) := BIv9.out.bel hbV
          have OWv10 : Hid (OwnT (s + 1) 54 .i64 v10 uv xs) := OWv9.out.bel hbV
          have HV : Hid (v9.alloc (Obj.cells #[.int .i64 xa, .int .i64 xb, .int .i64 xc] 54) = v10) := hV
          obtain ⟨u, hu⟩ : ∃ u, v9.heap.size = u := ⟨_, rfl⟩
          have HU : Hid (v9.heap.size = u) := hu
          rw [hV, hu]
          clear hV hbV hu
          refine hK.out _ _ trivial (fun hHeld => ?_)
          clear hK K
          try simp only [Act.put, List.getElem_toArray, List.getElem_cons_zero, List.getElem_cons_succ, List.setIfInBounds_toArray, List.set_cons_zero, List.set_cons_succ]
          refine wpAnyH_ready (rs := [10]) (by kernel_rfl) (by simp) ?_
          refine AllReadyH.cons rfl (fun K hK => ?_) AllReadyH.nil
          refine step_app1T rfl _ _ 25 54 rfl .i64 i0 _ Try.underlying25 hi hz0 hz1 (by omega) rfl (s + 1) uv xs (xa, xb, xc) hbig (w := v9) v10 rfl OWv10.out (by rw [HU.out]; rfl) (by have := BIv10.out.sz; omega) HV.out.symm ?_
          intro v' w' ho' hg' hat'
          have BIz : Hid (BI M br w s rc kind area origin pa pn seq age uv (.slice none 0 0) cost tag w') := BIv10.out.grown hg'.out (fun g e => (OWv10.out.row.lt g e).1)
          obtain ⟨va', vc', hv'⟩ := ho'.out.form
          obtain ⟨q, hq⟩ : ∃ q, (xs ++ [(xa, xb, xc)]).length = q := ⟨_, rfl⟩
          rw [hq] at hv'
          subst hv'
          clear hq
          have d7 := BIz.out.bx.c7
          have dz := BIz.out.fx 7
          refine hK.out _ _ trivial (fun hHeld => ?_)
          clear hK K
          try simp only [Act.put, List.getElem_toArray, List.getElem_cons_zero, List.getElem_cons_succ, List.setIfInBounds_toArray, List.set_cons_zero, List.set_cons_succ]
          refine wpAnyH_take (i := 11) (v := ?_) rfl (by kernel_rfl) (by kernel_rfl) (by kernel_rfl) (fun _ _ _ h => h) (Or.inl ⟨by rfl, ?_⟩) (by assumption) ?_
          case refine_2 => intro W hSw; go_simp; try rfl
          try simp only [Act.put, List.getElem_toArray, List.getElem_cons_zero, List.getElem_cons_succ, List.setIfInBounds_toArray, List.set_cons_zero, List.set_cons_succ]
          refine wpAnyH_ready (rs := [12]) (by kernel_rfl) (by simp) ?_
          refine AllReadyH.cons rfl (fun K hK => ?_) AllReadyH.nil
          go_simp
          refine hK.out _ _ trivial (fun hHeld => ?_)
          clear hK K
          try simp only [Act.put, List.getElem_toArray, List.getElem_cons_zero, List.getElem_cons_succ, List.setIfInBounds_toArray, List.set_cons_zero, List.set_cons_succ]
          refine wpAnyH_done (by kernel_rfl) ?_ _
          have BIy := BIz.out.set7 (.slice va' q vc')
          have OWy := ho'.out.set (i := 7) (u := .slice va' q vc') (Nat.lt_succ_self s)
          clear d7 dz
          go_wp2_with fail
          exact ⟨⟨k + 1, xs ++ [(xa, xb, xc)], rc, _, by omega, by simp, by rw [List.length_append, HXL.out]; rfl, BIy, OWy, HNX.out⟩, by simp [intOf]; omega⟩
        · go_simp
          refine (BIv6.out.num 2 2 rfl (by decide) (by decide) xb XE1.out rb XQ1.out).mono ?_
          rintro e v11 ⟨rfl, hb1, hk1⟩
          have BIv11 : Hid (BI M br w s rb kind area origin pa pn seq age uv (.slice none 0 0) cost tag v11) := hb1
          have OWv11 : Hid (OwnT (s + 1) 54 .i64 v11 uv xs) := OWv6.out.kr hk1 (by omega)
          clear hb1 hk1
          go_wp2_with fail
          refine hK.out _ _ trivial (fun hHeld => ?_)
          clear hK K
          try simp only [Act.put, List.getElem_toArray, List.getElem_cons_zero, List.getElem_cons_succ, List.setIfInBounds_toArray, List.set_cons_zero, List.set_cons_succ]
          refine wpAnyH_ready (rs := [1, 7]) (by kernel_rfl) (by simp) ?_
          refine AllReadyH.cons rfl (fun K hK => ?_) (AllReadyH.cons rfl (fun K hK => ?_) AllReadyH.nil)
          · have d7 := BIv11.out.bx.c7
            go_simp
            refine hK.out _ _ trivial (fun hHeld => ?_)
            clear hK K
            try simp only [Act.put, List.getElem_toArray, List.getElem_cons_zero, List.getElem_cons_succ, List.setIfInBounds_toArray, List.set_cons_zero, List.set_cons_succ]
            clear d7
            refine wpAnyH_ready (rs := [7]) (by kernel_rfl) (by simp) ?_
            refine AllReadyH.cons rfl (fun K hK => ?_) AllReadyH.nil
            go_simp
            refine (BIv11.out.num 2 2 rfl (by decide) (by decide) xc XE2.out rc XQ2.out).mono ?_
            rintro e v13 ⟨rfl, hb1, hk1⟩
            have BIv13 : Hid (BI M br w s rc kind area origin pa pn seq age uv (.slice none 0 0) cost tag v13) := hb1
            have OWv13 : Hid (OwnT (s + 1) 54 .i64 v13 uv xs) := OWv11.out.kr hk1 (by omega)
            clear hb1 hk1
            go_wp2_with fail
            refine hK.out _ _ trivial (fun hHeld => ?_)
            clear hK K
            try simp only [Act.put, List.getElem_toArray, List.getElem_cons_zero, List.getElem_cons_succ, List.setIfInBounds_toArray, List.set_cons_zero, List.set_cons_succ]
            refine wpAnyH_take (i := 8) (v := ?_) rfl (by kernel_rfl) (by kernel_rfl) (by kernel_rfl) (fun _ _ _ h => h) (Or.inl ⟨by rfl, ?_⟩) (by assumption) ?_
            case refine_2 => intro W hSw; go_simp; try rfl
            try simp only [Act.put, List.getElem_toArray, List.getElem_cons_zero, List.getElem_cons_succ, List.setIfInBounds_toArray, List.set_cons_zero, List.set_cons_succ]
            refine wpAnyH_ready (rs := [9]) (by kernel_rfl) (by simp) ?_
            refine AllReadyH.cons rfl (fun K hK => ?_) AllReadyH.nil
            go_simp
            obtain ⟨v14, hV⟩ : ∃ v14, v13.alloc (Obj.cells #[.int .i64 xa, .int .i64 xb, .int .i64 xc] 54) = v14 := ⟨_, rfl⟩
            have hbV : Below v13.heap.size v13 v14 := by rw [← hV]; exact (Below.refl _ v13).alloc (Nat.le_refl _) _
            have BIv14 : Hid (BI M br w s rc kind area origin pa pn seq age uv (.slice none 0 0) cost tag v14) := BIv13.out.bel hbV
            have OWv14 : Hid (OwnT (s + 1) 54 .i64 v14 uv xs) := OWv13.out.bel hbV
            have HV : Hid (v13.alloc (Obj.cells #[.int .i64 xa, .int .i64 xb, .int .i64 xc] 54) = v14) := hV
            obtain ⟨u, hu⟩ : ∃ u, v13.heap.size = u := ⟨_, rfl⟩
            have HU : Hid (v13.heap.size = u) := hu
            rw [hV, hu]
            clear hV hbV hu
            refine hK.out _ _ trivial (fun hHeld => ?_)
            clear hK K
            try simp only [Act.put, List.getElem_toArray, List.getElem_cons_zero, List.getElem_cons_succ, List.setIfInBounds_toArray, List.set_cons_zero, List.set_cons_succ]
            refine wpAnyH_ready (rs := [10]) (by kernel_rfl) (by simp) ?_
            refine AllReadyH.cons rfl (fun K hK => ?_) AllReadyH.nil
            refine step_app1T rfl _ _ 25 54 rfl .i64 i0 _ Try.underlying25 hi hz0 hz1 (by omega) rfl (s + 1) uv xs (xa, xb, xc) hbig (w := v13) v14 rfl OWv14.out (by rw [HU.out]; rfl) (by have := BIv14.out.sz; omega) HV.out.symm ?_
            intro v' w' ho' hg' hat'
            have BIz : Hid (BI M br w s rc kind area origin pa pn seq age uv (.slice none 0 0) cost tag w') := BIv14.out.grown hg'.out (fun g e => (OWv14.out.row.lt g e).1)
            obtain ⟨va', vc', hv'⟩ := ho'.out.form
            obtain ⟨q, hq⟩ : ∃ q, (xs ++ [(xa, xb, xc)]).length = q := ⟨_, rfl⟩
            rw [hq] at hv'
            subst hv'
            clear hq
            have d7 := BIz.out.bx.c7
            have dz := BIz.out.fx 7
            refine hK.out _ _ trivial (fun hHeld => ?_)
            clear hK K
            try simp only [Act.put, List.getElem_toArray, List.getElem_cons_zero, List.getElem_cons_succ, List.setIfInBounds_toArray, List.set_cons_zero, List.set_cons_succ]
            refine wpAnyH_take (i := 11) (v := ?_) rfl (by kernel_rfl) (by kernel_rfl) (by kernel_rfl) (fun _ _ _ h => h) (Or.inl ⟨by rfl, ?_⟩) (by assumption) ?_
            case refine_2 => intro W hSw; go_simp; try rfl
            try simp only [Act.put, List.getElem_toArray, List.getElem_cons_zero, List.getElem_cons_succ, List.setIfInBounds_toArray, List.set_cons_zero, List.set_cons_succ]
            refine wpAnyH_ready (rs := [12]) (by kernel_rfl) (by simp) ?_
            refine AllReadyH.cons rfl (fun K hK => ?_) AllReadyH.nil
            go_simp
            refine hK.out _ _ trivial (fun hHeld => ?_)
            clear hK K
            try simp only [Act.put, List.getElem_toArray, List.getElem_cons_zero, List.getElem_cons_succ, List.setIfInBounds_toArray, List.set_cons_zero, List.set_cons_succ]
            refine wpAnyH_done (by kernel_rfl) ?_ _
            have BIy := BIz.out.set7 (.slice va' q vc')
            have OWy := ho'.out.set (i := 7) (u := .slice va' q vc') (Nat.lt_succ_self s)
            clear d7 dz
            go_wp2_with fail
            exact ⟨⟨k + 1, xs ++ [(xa, xb, xc)], rc, _, by omega, by simp, by rw [List.length_append, HXL.out]; rfl, BIy, OWy, HNX.out⟩, by simp [intOf]; omega⟩
          · go_simp
            refine (BIv11.out.num 2 2 rfl (by decide) (by decide) xc XE2.out rc XQ2.out).mono ?_
            rintro e v15 ⟨rfl, hb1, hk1⟩
            have BIv15 : Hid (BI M br w s rc kind area origin pa pn seq age uv (.slice none 0 0) cost tag v15) := hb1
            have OWv15 : Hid (OwnT (s + 1) 54 .i64 v15 uv xs) := OWv11.out.kr hk1 (by omega)
            clear hb1 hk1
            go_wp2_with fail
            refine hK.out _ _ trivial (fun hHeld => ?_)
            clear hK K
            try simp only [Act.put, List.getElem_toArray, List.getElem_cons_zero, List.getElem_cons_succ, List.setIfInBounds_toArray, List.set_cons_zero, List.set_cons_succ]
            refine wpAnyH_take (i := 8) (v := ?_) rfl (by kernel_rfl) (by kernel_rfl) (by kernel_rfl) (fun _ _ _ h => h) (Or.inl ⟨by rfl, ?_⟩) (by assumption) ?_
            case refine_2 => intro W hSw; go_simp; try rfl
            try simp only [Act.put, List.getElem_toArray, List.getElem_cons_zero, List.getElem_cons_succ, List.setIfInBounds_toArray, List.set_cons_zero, List.set_cons_succ]
            refine wpAnyH_ready (rs := [1, 9]) (by kernel_rfl) (by simp) ?_
            refine AllReadyH.cons rfl (fun K hK => ?_) (AllReadyH.cons rfl (fun K hK => ?_) AllReadyH.nil)
            · have d7 := BIv15.out.bx.c7
              go_simp
              refine hK.out _ _ trivial (fun hHeld => ?_)
              clear hK K
              try simp only [Act.put, List.getElem_toArray, List.getElem_cons_zero, List.getElem_cons_succ, List.setIfInBounds_toArray, List.set_cons_zero, List.set_cons_succ]
              clear d7
              refine wpAnyH_ready (rs := [9]) (by kernel_rfl) (by simp) ?_
              refine AllReadyH.cons rfl (fun K hK => ?_) AllReadyH.nil
              go_simp
              obtain ⟨v17, hV⟩ : ∃ v17, v15.alloc (Obj.cells #[.int .i64 xa, .int .i64 xb, .int .i64 xc] 54) = v17 := ⟨_, rfl⟩
              have hbV : Below v15.heap.size v15 v17 := by rw [← hV]; exact (Below.refl _ v15).alloc (Nat.le_refl _) _
              have BIv17 : Hid (BI M br w s rc kind area origin pa pn seq age uv (.slice none 0 0) cost tag v17) := BIv15.out.bel hbV
              have OWv17 : Hid (OwnT (s + 1) 54 .i64 v17 uv xs) := OWv15.out.bel hbV
              have HV : Hid (v15.alloc (Obj.cells #[.int .i64 xa, .int .i64 xb, .int .i64 xc] 54) = v17) := hV
              obtain ⟨u, hu⟩ : ∃ u, v15.heap.size = u := ⟨_, rfl⟩
              have HU : Hid (v15.heap.size = u) := hu
              rw [hV, hu]
              clear hV hbV hu
              refine hK.out _ _ trivial (fun hHeld => ?_)
              clear hK K
              try simp only [Act.put, List.getElem_toArray, List.getElem_cons_zero, List.getElem_cons_succ, List.setIfInBounds_toArray, List.set_cons_zero, List.set_cons_succ]
              refine wpAnyH_ready (rs := [10]) (by kernel_rfl) (by simp) ?_
              refine AllReadyH.cons rfl (fun K hK => ?_) AllReadyH.nil
              refine step_app1T rfl _ _ 25 54 rfl .i64 i0 _ Try.underlying25 hi hz0 hz1 (by omega) rfl (s + 1) uv xs (xa, xb, xc) hbig (w := v15) v17 rfl OWv17.out (by rw [HU.out]; rfl) (by have := BIv17.out.sz; omega) HV.out.symm ?_
              intro v' w' ho' hg' hat'
              have BIz : Hid (BI M br w s rc kind area origin pa pn seq age uv (.slice none 0 0) cost tag w') := BIv17.out.grown hg'.out (fun g e => (OWv17.out.row.lt g e).1)
              obtain ⟨va', vc', hv'⟩ := ho'.out.form
              obtain ⟨q, hq⟩ : ∃ q, (xs ++ [(xa, xb, xc)]).length = q := ⟨_, rfl⟩
              rw [hq] at hv'
              subst hv'
              clear hq
              have d7 := BIz.out.bx.c7
              have dz := BIz.out.fx 7
              refine hK.out _ _ trivial (fun hHeld => ?_)
              clear hK K
              try simp only [Act.put, List.getElem_toArray, List.getElem_cons_zero, List.getElem_cons_succ, List.setIfInBounds_toArray, List.set_cons_zero, List.set_cons_succ]
              refine wpAnyH_take (i := 11) (v := ?_) rfl (by kernel_rfl) (by kernel_rfl) (by kernel_rfl) (fun _ _ _ h => h) (Or.inl ⟨by rfl, ?_⟩) (by assumption) ?_
              case refine_2 => intro W hSw; go_simp; try rfl
              try simp only [Act.put, List.getElem_toArray, List.getElem_cons_zero, List.getElem_cons_succ, List.setIfInBounds_toArray, List.set_cons_zero, List.set_cons_succ]
              refine wpAnyH_ready (rs := [12]) (by kernel_rfl) (by simp) ?_
              refine AllReadyH.cons rfl (fun K hK => ?_) AllReadyH.nil
              go_simp
              refine hK.out _ _ trivial (fun hHeld => ?_)
              clear hK K
              try simp only [Act.put, List.getElem_toArray, List.getElem_cons_zero, List.getElem_cons_succ, List.setIfInBounds_toArray, List.set_cons_zero, List.set_cons_succ]
              refine wpAnyH_done (by kernel_rfl) ?_ _
              have BIy := BIz.out.set7 (.slice va' q vc')
              have OWy := ho'.out.set (i := 7) (u := .slice va' q vc') (Nat.lt_succ_self s)
              clear d7 dz
              go_wp2_with fail
              exact ⟨⟨k + 1, xs ++ [(xa, xb, xc)], rc, _, by omega, by simp, by rw [List.length_append, HXL.out]; rfl, BIy, OWy, HNX.out⟩, by simp [intOf]; omega⟩
            · go_simp
              obtain ⟨v18, hV⟩ : ∃ v18, v15.alloc (Obj.cells #[.int .i64 xa, .int .i64 xb, .int .i64 xc] 54) = v18 := ⟨_, rfl⟩
              have hbV : Below v15.heap.size v15 v18 := by rw [← hV]; exact (Below.refl _ v15).alloc (Nat.le_refl _) _
              have BIv18 : Hid (BI M br w s rc kind area origin pa pn seq age uv (.slice none 0 0) cost tag v18) := BIv15.out.bel hbV
              have OWv18 : Hid (OwnT (s + 1) 54 .i64 v18 uv xs) := OWv15.out.bel hbV
              have HV : Hid (v15.alloc (Obj.cells #[.int .i64 xa, .int .i64 xb, .int .i64 xc] 54) = v18) := hV
              obtain ⟨u, hu⟩ : ∃ u, v15.heap.size = u := ⟨_, rfl⟩
              have HU : Hid (v15.heap.size = u) := hu
              rw [hV, hu]
              clear hV hbV hu
              refine hK.out _ _ trivial (fun hHeld => ?_)
              clear hK K
              try simp only [Act.put, List.getElem_toArray, List.getElem_cons_zero, List.getElem_cons_succ, List.setIfInBounds_toArray, List.set_cons_zero, List.set_cons_succ]
              refine wpAnyH_ready (rs := [1]) (by kernel_rfl) (by simp) ?_
              refine AllReadyH.cons rfl (fun K hK => ?_) AllReadyH.nil
              have d7 := BIv18.out.bx.c7
              go_simp
              refine hK.out _ _ trivial (fun hHeld => ?_)
              clear hK K
              try simp only [Act.put, List.getElem_toArray, List.getElem_cons_zero, List.getElem_cons_succ, List.setIfInBounds_toArray, List.set_cons_zero, List.set_cons_succ]
              clear d7
              refine wpAnyH_ready (rs := [10]) (by kernel_rfl) (by simp) ?_
              refine AllReadyH.cons rfl (fun K hK => ?_) AllReadyH.nil
              refine step_app1T rfl _ _ 25 54 rfl .i64 i0 _ Try.underlying25 hi hz0 hz1 (by omega) rfl (s + 1) uv xs (xa, xb, xc) hbig (w := v15) v18 rfl OWv18.out (by rw [HU.out]; rfl) (by have := BIv18.out.sz; omega) HV.out.symm ?_
              intro v' w' ho' hg' hat'
              have BIz : Hid (BI M br w s rc kind area origin pa pn seq age uv (.slice none 0 0) cost tag w') := BIv18.out.grown hg'.out (fun g e => (OWv18.out.row.lt g e).1)
              obtain ⟨va', vc', hv'⟩ := ho'.out.form
              obtain ⟨q, hq⟩ : ∃ q, (xs ++ [(xa, xb, xc)]).length = q := ⟨_, rfl⟩
              rw [hq] at hv'
              subst hv'
              clear hq
              have d7 := BIz.out.bx.c7
              have dz := BIz.out.fx 7
              refine hK.out _ _ trivial (fun hHeld => ?_)
              clear hK K
              try simp only [Act.put, List.getElem_toArray, List.getElem_cons_zero, List.getElem_cons_succ, List.setIfInBounds_toArray, List.set_cons_zero, List.set_cons_succ]
              refine wpAnyH_take (i := 11) (v := ?_) rfl (by kernel_rfl) (by kernel_rfl) (by kernel_rfl) (fun _ _ _ h => h) (Or.inl ⟨by rfl, ?_⟩) (by assumption) ?_
              case refine_2 => intro W hSw; go_simp; try rfl
              try simp only [Act.put, List.getElem_toArray, List.getElem_cons_zero, List.getElem_cons_succ, List.setIfInBounds_toArray, List.set_cons_zero, List.set_cons_succ]
              refine wpAnyH_ready (rs := [12]) (by kernel_rfl) (by simp) ?_
              refine AllReadyH.cons rfl (fun K hK => ?_) AllReadyH.nil
              go_simp
              refine hK.out _ _ trivial (fun hHeld => ?_)
              clear hK K
              try simp only [Act.put, List.getElem_toArray, List.getElem_cons_zero, List.getElem_cons_succ, List.setIfInBounds_toArray, List.set_cons_zero, List.set_cons_succ]
              refine wpAnyH_done (by kernel_rfl) ?_ _
              have BIy := BIz.out.set7 (.slice va' q vc')
              have OWy := ho'.out.set (i := 7) (u := .slice va' q vc') (Nat.lt_succ_self s)
              clear d7 dz
              go_wp2_with fail
              exact ⟨⟨k + 1, xs ++ [(xa, xb, xc)], rc, _, by omega, by simp, by rw [List.length_append, HXL.out]; rfl, BIy, OWy, HNX.out⟩, by simp [intOf]; omega⟩
    · obtain rfl : nl = (k : Int) := by omega
      have hnk : ((k : Int)).toNat - k = 0 := by omega
      have HE : Hid (xs = L.1 ∧ rk = L.2) := by
        have h1 := HD.out
        rw [hnk] at h1
        exact ⟨by have h2 := h1.1; simp [decN] at h2; exact h2, h1.2⟩
      clear HD hnk
      obtain ⟨hx1, hrk⟩ := HE.out
      subst hx1
      have HRL : Hid (rk = L.2) := hrk
      obtain ⟨lv, rfl⟩ : ∃ lv, lv = uv := ⟨_, rfl⟩
      have HOX : Hid (OwnT (s + 1) 54 .i64 wr lv L.1) := HOW.out
      clear hrk HE HOW
      go_wp2_with fail
      go_loopw [57] (fun iv wr => ∃ (k : Nat) (xs : List (Int × Int × Int)) (rk : Rst) (uv : Value), (k : Int) ≤ ns ∧ iv = .int .i64 k ∧ xs.length = k ∧ BI M br w s rk kind area origin pa pn seq age lv uv cost tag wr ∧ OwnT (s + 1) 56 .u32 wr uv xs ∧ OwnT (s + 1) 54 .i64 wr lv L.1 ∧ (∀ g, lv.ownBlock = some g → ¬ uv.ownBlock = some g) ∧ (xs ++ (decN decSt (ns.toNat - k) rk).1 = S.1 ∧ (decN decSt (ns.toNat - k) rk).2 = S.2) ∧ ∀ d ∈ xs, In32 d.1) (fun i _ => ns.toNat - (intOf i).toNat)
      case atStart => exact ⟨0, [], rk, .slice none 0 0, by omega, rfl, rfl, HBI.out, ownT_none _ _ _ _, HOX.out, (fun g _ e => by cases e), (by rw [Nat.sub_zero, HRL.out, HS.out]; exact ⟨rfl, rfl⟩), fun d hd => by cases hd⟩
      case round =>
        obtain ⟨k, xs, rk, uv, hk, rfl, hxl, hbi, how, hox, hap, hdec, hxi⟩ := hrel
        have HBI : Hid (BI M br w s rk kind area origin pa pn seq age lv uv cost tag wr) := hbi
        have HOW : Hid (OwnT (s + 1) 56 .u32 wr uv xs) := how
        have HXL : Hid (xs.length = k) := hxl
        have HOX : Hid (OwnT (s + 1) 54 .i64 wr lv L.1) := hox
        have HAP : Hid (∀ g, lv.ownBlock = some g → ¬ uv.ownBlock = some g) := hap
        have HXJ : Hid (∀ d ∈ xs, In32 d.1) := hxi
        have HD : Hid (xs ++ (decN decSt (ns.toNat - k) rk).1 = S.1 ∧ (decN decSt (ns.toNat - k) rk).2 = S.2) := hdec
        clear hbi how hxl hdec hox hap hxi
        by_cases hlt : (k : Int) < ns
        · have hbig : xs.length ≤ 1048576 := by rw [HXL.out]; omega
          obtain ⟨⟨⟨xa, xb, xc⟩, rc⟩, hy⟩ : ∃ y, decSt rk = y := ⟨_, rfl⟩
          have HNX : Hid ((xs ++ [(xa, xb, xc)]) ++ (decN decSt (ns.toNat - (k + 1)) rc).1 = S.1 ∧ (decN decSt (ns.toNat - (k + 1)) rc).2 = S.2) := by
            have := decN_snoc (r := rk) (by omega) HD.out
            rw [hy] at this
            exact this
          clear HD
          have HXI : Hid (∀ d ∈ xs ++ [(xa, xb, xc)], In32 d.1) := by
            intro d hd
            rcases List.mem_append.1 hd with h1 | h1
            · exact HXJ.out d h1
            · rw [List.mem_singleton] at h1
              subst h1
              have h2 : ((rdV 4 rk : Nat) : Int) = xa := by unfold decSt at hy; injection hy with hy1 hy2; injection hy1
              have h3 : rdV 4 rk < 4294967296 := rdV_lt HBI.out.ri.u8 4
              show 0 ≤ xa ∧ xa < 4294967296
              omega
          have XD : Hid (decSt rk = ((xa, xb, xc), rc)) := hy
          clear hy
          obtain ⟨i0, hi, hz0, hz1, hz2⟩ := info_parts infoSt
          go_wp2_with fail
          refine wp_region_held_drew (S := fun _ => True) (by kernel_rfl) trivial (fun hHeld => ?_)
          obtain ⟨wD, hwD⟩ : ∃ wD, wr.drew = wD := ⟨_, rfl⟩
          have BIwD : Hid (BI M br w s rk kind area origin pa pn seq age lv uv cost tag wD) := by rw [← hwD]; exact HBI.out.drew
          have OWwD : Hid (OwnT (s + 1) 56 .u32 wD uv xs) := by rw [← hwD]; exact HOW.out.bel (drew_bel wr)
          have OXwD : Hid (OwnT (s + 1) 54 .i64 wD lv L.1) := by rw [← hwD]; exact HOX.out.bel (drew_bel wr)
          rw [hwD]
          clear hwD
          refine wpAnyH_take (i := 0) (v := ?_) rfl (by kernel_rfl) (by kernel_rfl) (by kernel_rfl) (fun _ _ _ h => h) (Or.inl ⟨by rfl, ?_⟩) (by assumption) ?_
          case refine_2 => intro W hSw; go_simp; try rfl
          try simp only [Act.put, List.getElem_toArray, List.getElem_cons_zero, List.setIfInBounds_toArray, List.set_cons_zero, List.set_cons_succ]
          refine wpAnyH_take (i := 2) (v := ?_) rfl (by kernel_rfl) (by kernel_rfl) (by kernel_rfl) (fun _ _ _ h => h) (Or.inl ⟨by rfl, ?_⟩) (by assumption) ?_
          case refine_2 => intro W hSw; go_simp; try rfl
          try simp only [Act.put, List.getElem_toArray, List.getElem_cons_zero, List.getElem_cons_succ, List.setIfInBounds_toArray, List.set_cons_zero, List.set_cons_succ]
          refine wpAnyH_ready (rs := [1, 3]) (by kernel_rfl) (by simp) ?_
          refine AllReadyH.cons rfl (fun K hK => ?_) (AllReadyH.cons rfl (fun K hK => ?_) AllReadyH.nil)
          · have d8 := BIwD.out.bx.c8
            go_simp
            refine hK.out _ _ trivial (fun hHeld => ?_)
            clear hK K
            try simp only [Act.put, List.getElem_toArray, List.getElem_cons_zero, List.getElem_cons_succ, List.setIfInBounds_toArray, List.set_cons_zero, List.set_cons_succ]
            clear d8
            refine wpAnyH_ready (rs := [3]) (by kernel_rfl) (by simp) ?_
            refine AllReadyH.cons rfl (fun K hK => ?_) AllReadyH.nil
            go_simp
            refine (BIwD.out.stub xa xb xc rc XD.out).mono ?_
            rintro e v21 ⟨rfl, hb1, hk1⟩
            have BIv21 : Hid (BI M br w s rc kind area origin pa pn seq age lv uv cost tag v21) := hb1
            have OWv21 : Hid (OwnT (s + 1) 56 .u32 v21 uv xs) := OWwD.out.kr hk1 (by omega)
            have OXv21 : Hid (OwnT (s + 1) 54 .i64 v21 lv L.1) := OXwD.out.kr hk1 (by omega)
            clear hb1 hk1
            go_wp2_with fail
            refine hK.out _ _ trivial (fun hHeld => ?_)
            clear hK K
            try simp only [Act.put, List.getElem_toArray, List.getElem_cons_zero, List.getElem_cons_succ, List.setIfInBounds_toArray, List.set_cons_zero, List.set_cons_succ]
            refine wpAnyH_ready (rs := [4]) (by kernel_rfl) (by simp) ?_
            refine AllReadyH.cons rfl (fun K hK => ?_) AllReadyH.nil
            go_simp
            obtain ⟨v22, hV⟩ : ∃ v22, v21.alloc (Obj.cells #[.int .u32 xa, .int .i64 xb, .int .i64 xc] 56) = v22 := ⟨_, rfl⟩
            have hbV : Below v21.heap.size v21 v22 := by rw [← hV]; exact (Below.refl _ v21).alloc (Nat.le_refl _) _
            have BIv22 : Hid (BI M br w s rc kind area origin pa pn seq age lv uv cost tag v22) := BIv21.out.bel hbV
            have OWv22 : Hid (OwnT (s + 1) 56 .u32 v22 uv xs) := OWv21.out.bel hbV
            have OXv22 : Hid (OwnT (s + 1) 54 .i64 v22 lv L.1) := OXv21.out.bel hbV
            have HV : Hid (v21.alloc (Obj.cells #[.int .u32 xa, .int .i64 xb, .int .i64 xc] 56) = v22) := hV
            obtain ⟨u, hu⟩ : ∃ u, v21.heap.size = u := ⟨_, rfl⟩
            have HU : Hid (v21.heap.size = u) := hu
            rw [hV, hu]
            clear hV hbV hu
            refine hK.out _ _ trivial (fun hHeld => ?_)
            clear hK K
            try simp only [Act.put, List.getElem_toArray, List.getElem_cons_zero, List.getElem_cons_succ, List.setIfInBounds_toArray, List.set_cons_zero, List.set_cons_succ]
            refine wpAnyH_ready (rs := [5]) (by kernel_rfl) (by simp) ?_
            refine AllReadyH.cons rfl (fun K hK => ?_) AllReadyH.nil
            refine step_app1T rfl _ _ 26 56 rfl .u32 i0 _ Try.underlying26 hi hz0 hz1 (by omega) rfl (s + 1) uv xs (xa, xb, xc) hbig (w := v21) v22 rfl OWv22.out (by rw [HU.out]; rfl) (by have := BIv22.out.sz; omega) HV.out.symm ?_
            intro v' w' ho' hg' hat'
            have BIz : Hid (BI M br w s rc kind area origin pa pn seq age lv uv cost tag w') := BIv22.out.grown hg'.out (fun g e => (OWv22.out.row.lt g e).1)
            have OXz : Hid (OwnT (s + 1) 54 .i64 w' lv L.1) := OXv22.out.grown hg'.out (fun g e e2 => HAP.out g e e2)
            have APz : Hid (∀ g, lv.ownBlock = some g → ¬ v'.ownBlock = some g) := fun g e e2 => by
              rcases hat'.out with e3 | e3
              · exact HAP.out g e (e3 ▸ e2)
              · rw [e3] at e2
                cases e2
                exact absurd (OXv22.out.row.lt _ e).2 (by omega)
            obtain ⟨va', vc', hv'⟩ := ho'.out.form
            obtain ⟨q, hq⟩ : ∃ q, (xs ++ [(xa, xb, xc)]).length = q := ⟨_, rfl⟩
            rw [hq] at hv'
            subst hv'
            clear hq
            have d8 := BIz.out.bx.c8
            have dz := BIz.out.fx 8
            refine hK.out _ _ trivial (fun hHeld => ?_)
            clear hK K
            try simp only [Act.put, List.getElem_toArray, List.getElem_cons_zero, List.getElem_cons_succ, List.setIfInBounds_toArray, List.set_cons_zero, List.set_cons_succ]
            refine wpAnyH_take (i := 6) (v := ?_) rfl (by kernel_rfl) (by kernel_rfl) (by kernel_rfl) (fun _ _ _ h => h) (Or.inl ⟨by rfl, ?_⟩) (by assumption) ?_
            case refine_2 => intro W hSw; go_simp; try rfl
            try simp only [Act.put, List.getElem_toArray, List.getElem_cons_zero, List.getElem_cons_succ, List.setIfInBounds_toArray, List.set_cons_zero, List.set_cons_succ]
            refine wpAnyH_ready (rs := [7]) (by kernel_rfl) (by simp) ?_
            refine AllReadyH.cons rfl (fun K hK => ?_) AllReadyH.nil
            go_simp
            refine hK.out _ _ trivial (fun hHeld => ?_)
            clear hK K
            try simp only [Act.put, List.getElem_toArray, List.getElem_cons_zero, List.getElem_cons_succ, List.setIfInBounds_toArray, List.set_cons_zero, List.set_cons_succ]
            refine wpAnyH_done (by kernel_rfl) ?_ _
            have BIy := BIz.out.set8 (.slice va' q vc')
            have OWy := ho'.out.set (i := 8) (u := .slice va' q vc') (Nat.lt_succ_self s)
            have OXy := OXz.out.set (i := 8) (u := .slice va' q vc') (Nat.lt_succ_self s)
            clear d8 dz
            go_wp2_with fail
            exact ⟨⟨k + 1, xs ++ [(xa, xb, xc)], rc, _, by omega, by simp, by rw [List.length_append, HXL.out]; rfl, BIy, OWy, OXy, APz.out, HNX.out, HXI.out⟩, by simp [intOf]; omega⟩
          · go_simp
            refine (BIwD.out.stub xa xb xc rc XD.out).mono ?_
            rintro e v23 ⟨rfl, hb1, hk1⟩
            have BIv23 : Hid (BI M br w s rc kind area origin pa pn seq age lv uv cost tag v23) := hb1
            have OWv23 : Hid (OwnT (s + 1) 56 .u32 v23 uv xs) := OWwD.out.kr hk1 (by omega)
            have OXv23 : Hid (OwnT (s + 1) 54 .i64 v23 lv L.1) := OXwD.out.kr hk1 (by omega)
            clear hb1 hk1
            go_wp2_with fail
            refine hK.out _ _ trivial (fun hHeld => ?_)
            clear hK K
            try simp only [Act.put, List.getElem_toArray, List.getElem_cons_zero, List.getElem_cons_succ, List.setIfInBounds_toArray, List.set_cons_zero, List.set_cons_succ]
            refine wpAnyH_ready (rs := [1, 4]) (by kernel_rfl) (by simp) ?_
            refine AllReadyH.cons rfl (fun K hK => ?_) (AllReadyH.cons rfl (fun K hK => ?_) AllReadyH.nil)
            · have d8 := BIv23.out.bx.c8
              go_simp
              refine hK.out _ _ trivial (fun hHeld => ?_)
              clear hK K
              try simp only [Act.put, List.getElem_toArray, List.getElem_cons_zero, List.getElem_cons_succ, List.setIfInBounds_toArray, List.set_cons_zero, List.set_cons_succ]
              clear d8
              refine wpAnyH_ready (rs := [4]) (by kernel_rfl) (by simp) ?_
              refine AllReadyH.cons rfl (fun K hK => ?_) AllReadyH.nil
              go_simp
              obtain ⟨v25, hV⟩ : ∃ v25, v23.alloc (Obj.cells #[.int .u32 xa, .int .i64 xb, .int .i64 xc] 56) = v25 := ⟨_, rfl⟩
              have hbV : Below v23.heap.size v23 v25 := by rw [← hV]; exact (Below.refl _ v23).alloc (Nat.le_refl _) _
              have BIv25 : Hid (BI M br w s rc kind area origin pa pn seq age lv uv cost tag v25) := BIv23.out.bel hbV
              have OWv25 : Hid (OwnT (s + 1) 56 .u32 v25 uv xs) := OWv23.out.bel hbV
              have OXv25 : Hid (OwnT (s + 1) 54 .i64 v25 lv L.1) := OXv23.out.bel hbV
              have HV : Hid (v23.alloc (Obj.cells #[.int .u32 xa, .int .i64 xb, .int .i64 xc] 56) = v25) := hV
              obtain ⟨u, hu⟩ : ∃ u, v23.heap.size = u := ⟨_, rfl⟩
              have HU : Hid (v23.heap.size = u) := hu
              rw [hV, hu]
              clear hV hbV hu
              refine hK.out _ _ trivial (fun hHeld => ?_)
              clear hK K
              try simp only [Act.put, List.getElem_toArray, List.getElem_cons_zero, List.getElem_cons_succ, List.setIfInBounds_toArray, List.set_cons_zero, List.set_cons_succ]
              refine wpAnyH_ready (rs := [5]) (by kernel_rfl) (by simp) ?_
              refine AllReadyH.cons rfl (fun K hK => ?_) AllReadyH.nil
              refine step_app1T rfl _ _ 26 56 rfl .u32 i0 _ Try.underlying26 hi hz0 hz1 (by omega) rfl (s + 1) uv xs (xa, xb, xc) hbig (w := v23) v25 rfl OWv25.out (by rw [HU.out]; rfl) (by have := BIv25.out.sz; omega) HV.out.symm ?_
              intro v' w' ho' hg' hat'
              have BIz : Hid (BI M br w s rc kind area origin pa pn seq age lv uv cost tag w') := BIv25.out.grown hg'.out (fun g e => (OWv25.out.row.lt g e).1)
              have OXz : Hid (OwnT (s + 1) 54 .i64 w' lv L.1) := OXv25.out.grown hg'.out (fun g e e2 => HAP.out g e e2)
              have APz : Hid (∀ g, lv.ownBlock = some g → ¬ v'.ownBlock = some g) := fun g e e2 => by
                rcases hat'.out with e3 | e3
                · exact HAP.out g e (e3 ▸ e2)
                · rw [e3] at e2
                  cases e2
                  exact absurd (OXv25.out.row.lt _ e).2 (by omega)
              obtain ⟨va', vc', hv'⟩ := ho'.out.form
              obtain ⟨q, hq⟩ : ∃ q, (xs ++ [(xa, xb, xc)]).length = q := ⟨_, rfl⟩
              rw [hq] at hv'
              subst hv'
              clear hq
              have d8 := BIz.out.bx.c8
              have dz := BIz.out.fx 8
              refine hK.out _ _ trivial (fun hHeld => ?_)
              clear hK K
              try simp only [Act.put, List.getElem_toArray, List.getElem_cons_zero, List.getElem_cons_succ, List.setIfInBounds_toArray, List.set_cons_zero, List.set_cons_succ]
              refine wpAnyH_take (i := 6) (v := ?_) rfl (by kernel_rfl) (by kernel_rfl) (by kernel_rfl) (fun _ _ _ h => h) (Or.inl ⟨by rfl, ?_⟩) (by assumption) ?_
              case refine_2 => intro W hSw; go_simp; try rfl
              try simp only [Act.put, List.getElem_toArray, List.getElem_cons_zero, List.getElem_cons_succ, List.setIfInBounds_toArray, List.set_cons_zero, List.set_cons_succ]
              refine wpAnyH_ready (rs := [7]) (by kernel_rfl) (by simp) ?_
              refine AllReadyH.cons rfl (fun K hK => ?_) AllReadyH.nil
              go_simp
              refine hK.out _ _ trivial (fun hHeld => ?_)
              clear hK K
              try simp only [Act.put, List.getElem_toArray, List.getElem_cons_zero, List.getElem_cons_succ, List.setIfInBounds_toArray, List.set_cons_zero, List.set_cons_succ]
              refine wpAnyH_done (by kernel_rfl) ?_ _
              have BIy := BIz.out.set8 (.slice va' q vc')
              have OWy := ho'.out.set (i := 8) (u := .slice va' q vc') (Nat.lt_succ_self s)
              have OXy := OXz.out.set (i := 8) (u := .slice va' q vc') (Nat.lt_succ_self s)
              clear d8 dz
              go_wp2_with fail
              exact ⟨⟨k + 1, xs ++ [(xa, xb, xc)], rc, _, by omega, by simp, by rw [List.length_append, HXL.out]; rfl, BIy, OWy, OXy, APz.out, HNX.out, HXI.out⟩, by simp [intOf]; omega⟩
            · go_simp
              obtain ⟨v26, hV⟩ : ∃ v26, v23.alloc (Obj.cells #[.int .u32 xa, .int .i64 xb, .int .i64 xc] 56) = v26 := ⟨_, rfl⟩
              have hbV : Below v23.heap.size v23 v26 := by rw [← hV]; exact (Below.refl _ v23).alloc (Nat.le_refl _) _
              have BIv26 : Hid (BI M br w s rc kind area origin pa pn seq age lv uv cost tag v26) := BIv23.out.bel hbV
              have OWv26 : Hid (OwnT (s + 1) 56 .u32 v26 uv xs) := OWv23.out.bel hbV
              have OXv26 : Hid (OwnT (s + 1) 54 .i64 v26 lv L.1) := OXv23.out.bel hbV
              have HV : Hid (v23.alloc (Obj.cells #[.int .u32 xa, .int .i64 xb, .int .i64 xc] 56) = v26) := hV
              obtain ⟨u, hu⟩ : ∃ u, v23.heap.size = u := ⟨_, rfl⟩
              have HU : Hid (v23.heap.size = u) := hu
              rw [hV, hu]
              clear hV hbV hu
              refine hK.out _ _ trivial (fun hHeld => ?_)
              clear hK K
              try simp only [Act.put, List.getElem_toArray, List.getElem_cons_zero, List.getElem_cons_succ, List.setIfInBounds_toArray, List.set_cons_zero, List.set_cons_succ]
              refine wpAnyH_ready (rs := [1]) (by kernel_rfl) (by simp) ?_
              refine AllReadyH.cons rfl (fun K hK => ?_) AllReadyH.nil
              have d8 := BIv26.out.bx.c8
              go_simp
              refine hK.out _ _ trivial (fun hHeld => ?_)
              clear hK K
              try simp only [Act.put, List.getElem_toArray, List.getElem_cons_zero, List.getElem_cons_succ, List.setIfInBounds_toArray, List.set_cons_zero, List.set_cons_succ]
              clear d8
              refine wpAnyH_ready (rs := [5]) (by kernel_rfl) (by simp) ?_
              refine AllReadyH.cons rfl (fun K hK => ?_) AllReadyH.nil
              refine step_app1T rfl _ _ 26 56 rfl .u32 i0 _ Try.underlying26 hi hz0 hz1 (by omega) rfl (s + 1) uv xs (xa, xb, xc) hbig (w := v23) v26 rfl OWv26.out (by rw [HU.out]; rfl) (by have := BIv26.out.sz; omega) HV.out.symm ?_
              intro v' w' ho' hg' hat'
              have BIz : Hid (BI M br w s rc kind area origin pa pn seq age lv uv cost tag w') := BIv26.out.grown hg'.out (fun g e => (OWv26.out.row.lt g e).1)
              have OXz : Hid (OwnT (s + 1) 54 .i64 w' lv L.1) := OXv26.out.grown hg'.out (fun g e e2 => HAP.out g e e2)
              have APz : Hid (∀ g, lv.ownBlock = some g → ¬ v'.ownBlock = some g) := fun g e e2 => by
                rcases hat'.out with e3 | e3
                · exact HAP.out g e (e3 ▸ e2)
                · rw [e3] at e2
                  cases e2
                  exact absurd (OXv26.out.row.lt _ e).2 (by omega)
              obtain ⟨va', vc', hv'⟩ := ho'.out.form
              obtain ⟨q, hq⟩ : ∃ q, (xs ++ [(xa, xb, xc)]).length = q := ⟨_, rfl⟩
              rw [hq] at hv'
              subst hv'
              clear hq
              have d8 := BIz.out.bx.c8
              have dz := BIz.out.fx 8
              refine hK.out _ _ trivial (fun hHeld => ?_)
              clear hK K
              try simp only [Act.put, List.getElem_toArray, List.getElem_cons_zero, List.getElem_cons_succ, List.setIfInBounds_toArray, List.set_cons_zero, List.set_cons_succ]
              refine wpAnyH_take (i := 6) (v := ?_) rfl (by kernel_rfl) (by kernel_rfl) (by kernel_rfl) (fun _ _ _ h => h) (Or.inl ⟨by rfl, ?_⟩) (by assumption) ?_
              case refine_2 => intro W hSw; go_simp; try rfl
              try simp only [Act.put, List.getElem_toArray, List.getElem_cons_zero, List.getElem_cons_succ, List.setIfInBounds_toArray, List.set_cons_zero, List.set_cons_succ]
              refine wpAnyH_ready (rs := [7]) (by kernel_rfl) (by simp) ?_
              refine AllReadyH.cons rfl (fun K hK => ?_) AllReadyH.nil
              go_simp
              refine hK.out _ _ trivial (fun hHeld => ?_)
              clear hK K
              try simp only [Act.put, List.getElem_toArray, List.getElem_cons_zero, List.getElem_cons_succ, List.setIfInBounds_toArray, List.set_cons_zero, List.set_cons_succ]
              refine wpAnyH_done (by kernel_rfl) ?_ _
              have BIy := BIz.out.set8 (.slice va' q vc')
              have OWy := ho'.out.set (i := 8) (u := .slice va' q vc') (Nat.lt_succ_self s)
              have OXy := OXz.out.set (i := 8) (u := .slice va' q vc') (Nat.lt_succ_self s)
              clear d8 dz
              go_wp2_with fail
              exact ⟨⟨k + 1, xs ++ [(xa, xb, xc)], rc, _, by omega, by simp, by rw [List.length_append, HXL.out]; rfl, BIy, OWy, OXy, APz.out, HNX.out, HXI.out⟩, by simp [intOf]; omega⟩
        · obtain rfl : ns = (k : Int) := by omega
          have hnk : ((k : Int)).toNat - k = 0 := by omega
          have HE : Hid (xs = S.1 ∧ rk = S.2) := by
            have h1 := HD.out
            rw [hnk] at h1
            exact ⟨by have h2 := h1.1; simp [decN] at h2; exact h2, h1.2⟩
          clear HD hnk
          obtain ⟨hx1, hrk⟩ := HE.out
          subst hx1 hrk
          obtain ⟨la, lc, hlv⟩ := HOX.out.form
          obtain ⟨sa, sc, huv⟩ := HOW.out.form
          subst hlv huv
          obtain ⟨n1, hn1⟩ : ∃ n, L.1.length = n := ⟨_, rfl⟩
          obtain ⟨n2, hn2⟩ : ∃ n, S.1.length = n := ⟨_, rfl⟩
          have HN1 : Hid (L.1.length = n1) := hn1
          have HN2 : Hid (S.1.length = n2) := hn2
          have hlo := HBI.out.lo
          have HFIN : Hid (∀ W, (∀ g, ¬ g = w.heap.size → W.heap[g]? = wr.heap[g]?) → Below w.heap.size wr W → ∃ la' lc' sa' sc', Ending.returned (Value.agg #[.int .i64 kind, .int .i64 area, .int .i64 origin, .int .u32 pa, .int .i64 pn, .int .i64 seq, .int .i64 age, .slice la n1 lc, .slice sa n2 sc, .int .i64 cost, .int .i64 tag]) = .returned (lsaV ⟨kind, area, origin, pa, pn, seq, age, cost, tag, L.1, S.1⟩ la' lc' sa' sc') ∧ RI M br w S.2 W ∧ OwnT (w.heap.size + 2) 54 .i64 W (.slice la' L.1.length lc') L.1 ∧ OwnT (w.heap.size + 2) 56 .u32 W (.slice sa' S.1.length sc') S.1 ∧ (∀ g, (Value.slice la' L.1.length lc').ownBlock = some g → ¬ (Value.slice sa' S.1.length sc').ownBlock = some g) ∧ In32 pa ∧ S32 S.1) := by
            intro W hW hB
            refine ⟨la, lc, sa, sc, ?_, HBI.out.ri.high hM hB, ?_, ?_, HAP.out, hpa, HXJ.out⟩
            · unfold lsaV
              dsimp only
              rw [HN1.out, HN2.out]
            · have h1 := HOX.out.blk (w' := W) (fun g e => hW g (by have := (HOX.out.row.lt g e).1; omega))
              exact h1.mono (by omega)
            · have h1 := HOW.out.blk (w' := W) (fun g e => hW g (by have := (HOW.out.row.lt g e).1; omega))
              exact h1.mono (by omega)
          have hbx := HBI.out.bx
          rw [hn1, hn2] at hbx
          obtain ⟨c0, c1, c2, c3, c4, c5, c6, c7, c8, c9, c10⟩ := hbx
          obtain ⟨z0, z1, z2, z3, z4, z5, z6, z7, z8, z9, z10⟩ := HBI.out.zx
          have fz := HBI.out.fz
          clear HBI HOW HOX HAP HXJ hn1 hn2 HE
          go_wp2_with fail
          refine bodyPost_ret (v := .agg #[.int .i64 kind, .int .i64 area, .int .i64 origin, .int .u32 pa, .int .i64 pn, .int .i64 seq, .int .i64 age, .slice la n1 lc, .slice sa n2 sc, .int .i64 cost, .int .i64 tag]) (by simp [results, Try.results57, go_sem, z0, z1, z2, z3, z4, z5, z6, z7, z8, z9, z10]) rfl ?_
          obtain ⟨WW, hWW⟩ : ∃ WW, (((((((((((wr.setCell ⟨w.heap.size, 0, none⟩ (.int .i64 kind)).setCell ⟨w.heap.size, 1, none⟩ (.int .i64 area)).setCell ⟨w.heap.size, 2, none⟩ (.int .i64 origin)).setCell ⟨w.heap.size, 3, none⟩ (.int .u32 pa)).setCell ⟨w.heap.size, 4, none⟩ (.int .i64 pn)).setCell ⟨w.heap.size, 5, none⟩ (.int .i64 seq)).setCell ⟨w.heap.size, 6, none⟩ (.int .i64 age)).setCell ⟨w.heap.size, 7, none⟩ (.slice la n1 lc)).setCell ⟨w.heap.size, 8, none⟩ (.slice sa n2 sc)).setCell ⟨w.heap.size, 9, none⟩ (.int .i64 cost)).setCell ⟨w.heap.size, 10, none⟩ (.int .i64 tag)) = WW := ⟨_, rfl⟩
          rw [hWW]
          refine HFIN.out WW ?_ ?_
          · intro g hg
            rw [← hWW]
            repeat rw [Below.heap_setCell _ _ _ _ (by show g ≠ w.heap.size; exact hg)]
          · rw [← hWW]
            iterate 11 refine Below.setCell ?_ (by show _ ≤ w.heap.size; omega) _
            exact Below.refl _ _
end Go.Proofs.Ytagfdmkgnedlbae.Ls
