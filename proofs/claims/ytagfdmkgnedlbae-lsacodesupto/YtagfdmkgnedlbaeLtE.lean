/- The document's lsaAt: its boxes. -/
import Derived.Test.YtagfdmkgnedlbaeLtB
import Derived.Test.YtagfdmkgnedlbaeLsW
import Derived.Test.YtagfdmkgnedlbaeLsX
namespace Go.Proofs.Ytagfdmkgnedlbae.Ls
open Go.ChangeShapes Go.WideShapes Go.ChangeAt Go.RowKit Go.Joins Go.Proofs.Ytagfdmkgnedlbae.PM Go.Proofs.Ytagfdmkgnedlbae.Ask
set_option linter.unusedVariables false

/-- the two boxes of lsaAt: what it answers (zero), and what it reads into -/
structure AI (w : World) (s : Nat) (kind area origin pa pn seq age : Int) (lv sv : Value) (cost tag : Int) (W : World) : Prop where
  bel : Below w.heap.size w W
  bx : LBox s kind area origin pa pn seq age lv sv cost tag W
  fx : ∀ i, W.frozen? ⟨s, i, none⟩ = false
  zx : LBox w.heap.size 0 0 0 0 0 0 0 (.slice none 0 0) (.slice none 0 0) 0 0 W
  fz : ∀ i, W.frozen? ⟨w.heap.size, i, none⟩ = false
  lo : w.heap.size < s
  sz : s < W.heap.size
section
variable {w : World} {s : Nat} {kind area origin pa pn seq age : Int} {lv sv : Value} {cost tag : Int} {W W' : World}
theorem AI.keep (h : AI w s kind area origin pa pn seq age lv sv cost tag W) (hb : Below w.heap.size W W') (h0 : W'.heap[w.heap.size]? = W.heap[w.heap.size]?) (h1 : W'.heap[s]? = W.heap[s]?) : AI w s kind area origin pa pn seq age lv sv cost tag W' :=
  ⟨h.bel.trans hb, h.bx.blk h1, fun i => (World.frozen?_of_block (w := W) h1).trans (h.fx i), h.zx.blk h0, fun i => (World.frozen?_of_block (w := W) h0).trans (h.fz i), h.lo, Nat.lt_of_lt_of_le h.sz hb.size⟩
theorem AI.next (h : AI w s kind area origin pa pn seq age lv sv cost tag W) (hb : Below W.heap.size W W') : AI w s kind area origin pa pn seq age lv sv cost tag W' := by
  have := h.sz
  have := h.lo
  exact h.keep (hb.mono (by omega)) (hb.block _ (by omega)) (hb.block _ (by omega))
theorem AI.grown {o : Option Nat} (h : AI w s kind area origin pa pn seq age lv sv cost tag W) (hg : W.grownBy W' o) (ho : ∀ g, o = some g → s + 1 ≤ g) : AI w s kind area origin pa pn seq age lv sv cost tag W' := by
  have h2 := h.sz
  have h3 := h.lo
  have hb : Below (s + 1) W W' := (Below.refl _ W).grown hg h2 ho
  exact h.keep (hb.mono (by omega)) (hb.block _ (by omega)) (hb.block _ (by omega))
theorem AI.set3 (h : AI w s kind area origin pa pn seq age lv sv cost tag W) (n : Int) : AI w s kind area origin n pn seq age lv sv cost tag (W.setCell ⟨s, 3, none⟩ (.int .u32 n)) := by
  have hl := h.lo
  obtain ⟨c0, c1, c2, c3, c4, c5, c6, c7, c8, c9, c10⟩ := h.bx
  refine ⟨h.bel.setCell (p := ⟨s, 3, none⟩) (by show _ ≤ s; omega) _, ⟨?_, ?_, ?_, ?_, ?_, ?_, ?_, ?_, ?_, ?_, ?_⟩, fun i => by rw [World.frozen?_setCell]; exact h.fx i, h.zx.blk (Below.heap_setCell W ⟨s, 3, none⟩ _ _ (by show _ ≠ s; omega)), fun i => by rw [World.frozen?_setCell]; exact h.fz i, h.lo, by simpa using h.sz⟩
  all_goals first
    | exact World.cell?_setCell_same' _ _ _ (by rw [c3]; rfl)
    | (rw [World.cell?_setCell_other _ _ _ _ (by intro e; injection e with _ e2 _; cases e2)]; assumption)
theorem AI.set4 (h : AI w s kind area origin pa pn seq age lv sv cost tag W) (n : Int) : AI w s kind area origin pa n seq age lv sv cost tag (W.setCell ⟨s, 4, none⟩ (.int .i64 n)) := by
  have hl := h.lo
  obtain ⟨c0, c1, c2, c3, c4, c5, c6, c7, c8, c9, c10⟩ := h.bx
  refine ⟨h.bel.setCell (p := ⟨s, 4, none⟩) (by show _ ≤ s; omega) _, ⟨?_, ?_, ?_, ?_, ?_, ?_, ?_, ?_, ?_, ?_, ?_⟩, fun i => by rw [World.frozen?_setCell]; exact h.fx i, h.zx.blk (Below.heap_setCell W ⟨s, 4, none⟩ _ _ (by show _ ≠ s; omega)), fun i => by rw [World.frozen?_setCell]; exact h.fz i, h.lo, by simpa using h.sz⟩
  all_goals first
    | exact World.cell?_setCell_same' _ _ _ (by rw [c4]; rfl)
    | (rw [World.cell?_setCell_other _ _ _ _ (by intro e; injection e with _ e2 _; cases e2)]; assumption)
theorem AI.set7 (h : AI w s kind area origin pa pn seq age lv sv cost tag W) (v : Value) : AI w s kind area origin pa pn seq age v sv cost tag (W.setCell ⟨s, 7, none⟩ v) := by
  have hl := h.lo
  obtain ⟨c0, c1, c2, c3, c4, c5, c6, c7, c8, c9, c10⟩ := h.bx
  refine ⟨h.bel.setCell (p := ⟨s, 7, none⟩) (by show _ ≤ s; omega) _, ⟨?_, ?_, ?_, ?_, ?_, ?_, ?_, ?_, ?_, ?_, ?_⟩, fun i => by rw [World.frozen?_setCell]; exact h.fx i, h.zx.blk (Below.heap_setCell W ⟨s, 7, none⟩ _ _ (by show _ ≠ s; omega)), fun i => by rw [World.frozen?_setCell]; exact h.fz i, h.lo, by simpa using h.sz⟩
  all_goals first
    | exact World.cell?_setCell_same' _ _ _ (by rw [c7]; rfl)
    | (rw [World.cell?_setCell_other _ _ _ _ (by intro e; injection e with _ e2 _; cases e2)]; assumption)
theorem AI.set8 (h : AI w s kind area origin pa pn seq age lv sv cost tag W) (v : Value) : AI w s kind area origin pa pn seq age lv v cost tag (W.setCell ⟨s, 8, none⟩ v) := by
  have hl := h.lo
  obtain ⟨c0, c1, c2, c3, c4, c5, c6, c7, c8, c9, c10⟩ := h.bx
  refine ⟨h.bel.setCell (p := ⟨s, 8, none⟩) (by show _ ≤ s; omega) _, ⟨?_, ?_, ?_, ?_, ?_, ?_, ?_, ?_, ?_, ?_, ?_⟩, fun i => by rw [World.frozen?_setCell]; exact h.fx i, h.zx.blk (Below.heap_setCell W ⟨s, 8, none⟩ _ _ (by show _ ≠ s; omega)), fun i => by rw [World.frozen?_setCell]; exact h.fz i, h.lo, by simpa using h.sz⟩
  all_goals first
    | exact World.cell?_setCell_same' _ _ _ (by rw [c8]; rfl)
    | (rw [World.cell?_setCell_other _ _ _ _ (by intro e; injection e with _ e2 _; cases e2)]; assumption)
theorem AI.set9 (h : AI w s kind area origin pa pn seq age lv sv cost tag W) (n : Int) : AI w s kind area origin pa pn seq age lv sv n tag (W.setCell ⟨s, 9, none⟩ (.int .i64 n)) := by
  have hl := h.lo
  obtain ⟨c0, c1, c2, c3, c4, c5, c6, c7, c8, c9, c10⟩ := h.bx
  refine ⟨h.bel.setCell (p := ⟨s, 9, none⟩) (by show _ ≤ s; omega) _, ⟨?_, ?_, ?_, ?_, ?_, ?_, ?_, ?_, ?_, ?_, ?_⟩, fun i => by rw [World.frozen?_setCell]; exact h.fx i, h.zx.blk (Below.heap_setCell W ⟨s, 9, none⟩ _ _ (by show _ ≠ s; omega)), fun i => by rw [World.frozen?_setCell]; exact h.fz i, h.lo, by simpa using h.sz⟩
  all_goals first
    | exact World.cell?_setCell_same' _ _ _ (by rw [c9]; rfl)
    | (rw [World.cell?_setCell_other _ _ _ _ (by intro e; injection e with _ e2 _; cases e2)]; assumption)
theorem AI.set10 (h : AI w s kind area origin pa pn seq age lv sv cost tag W) (n : Int) : AI w s kind area origin pa pn seq age lv sv cost n (W.setCell ⟨s, 10, none⟩ (.int .i64 n)) := by
  have hl := h.lo
  obtain ⟨c0, c1, c2, c3, c4, c5, c6, c7, c8, c9, c10⟩ := h.bx
  refine ⟨h.bel.setCell (p := ⟨s, 10, none⟩) (by show _ ≤ s; omega) _, ⟨?_, ?_, ?_, ?_, ?_, ?_, ?_, ?_, ?_, ?_, ?_⟩, fun i => by rw [World.frozen?_setCell]; exact h.fx i, h.zx.blk (Below.heap_setCell W ⟨s, 10, none⟩ _ _ (by show _ ≠ s; omega)), fun i => by rw [World.frozen?_setCell]; exact h.fz i, h.lo, by simpa using h.sz⟩
  all_goals first
    | exact World.cell?_setCell_same' _ _ _ (by rw [c10]; rfl)
    | (rw [World.cell?_setCell_other _ _ _ _ (by intro e; injection e with _ e2 _; cases e2)]; assumption)
end
theorem rdV_at {bs : List Nat} {a n L : Nat} (hL : bs.length = L) (h : a + n ≤ L) : rdV n (bs.drop a, false) = num ((bs.drop a).take n) := rdV_of (by show n ≤ (bs.drop a).length; rw [List.length_drop]; omega)
theorem rdR_at {bs : List Nat} {a n L : Nat} (hL : bs.length = L) (h : a + n ≤ L) : rdR n (bs.drop a, false) = (bs.drop (a + n), false) := by
  rw [rdR_of (by show n ≤ (bs.drop a).length; rw [List.length_drop]; omega), List.drop_drop]
theorem num_one {bs : List Nat} {a : Nat} (h : a < bs.length) : num ((bs.drop a).take 1) = bs[a] := by
  rw [List.drop_eq_getElem_cons h, List.take_succ_cons, List.take_zero]
  simp [num]
/-- what stands ahead of the lists, by its places -/
theorem decL_at {bs : List Nat} {a L : Nat} (hL : bs.length = L) (h : a + 28 ≤ L) : decL (bs.drop a, false) =
    let l := decN decLk (num ((bs.drop (a + 1)).take 1)) (bs.drop (a + 28), false)
    let s := decN decSt (num ((bs.drop (a + 2)).take 1)) l.2
    (⟨(num ((bs.drop a).take 1) : Nat), (num ((bs.drop (a + 4)).take 2) : Nat), (num ((bs.drop (a + 8)).take 4) : Nat), (num ((bs.drop (a + 16)).take 4) : Nat), (num ((bs.drop (a + 3)).take 1) : Nat), (num ((bs.drop (a + 12)).take 4) : Nat), (num ((bs.drop (a + 6)).take 2) : Nat), (num ((bs.drop (a + 20)).take 4) : Nat), (num ((bs.drop (a + 24)).take 4) : Nat), l.1, s.1⟩, s.2) := by
  unfold decL
  simp only [hdR]
  rw [rdR_at hL (by omega : a + 1 ≤ L), rdR_at hL (by omega : a + 1 + 1 ≤ L), rdR_at hL (by omega : a + 1 + 1 + 1 ≤ L), rdR_at hL (by omega : a + 1 + 1 + 1 + 1 ≤ L), rdR_at hL (by omega : a + 1 + 1 + 1 + 1 + 2 ≤ L), rdR_at hL (by omega : a + 1 + 1 + 1 + 1 + 2 + 2 ≤ L), rdR_at hL (by omega : a + 1 + 1 + 1 + 1 + 2 + 2 + 4 ≤ L), rdR_at hL (by omega : a + 1 + 1 + 1 + 1 + 2 + 2 + 4 + 4 ≤ L), rdR_at hL (by omega : a + 1 + 1 + 1 + 1 + 2 + 2 + 4 + 4 + 4 ≤ L), rdR_at hL (by omega : a + 1 + 1 + 1 + 1 + 2 + 2 + 4 + 4 + 4 + 4 ≤ L), rdR_at hL (by omega : a + 1 + 1 + 1 + 1 + 2 + 2 + 4 + 4 + 4 + 4 + 4 ≤ L)]
  rw [rdV_at hL (by omega : a + 1 ≤ L), rdV_at hL (by omega : a + 1 + 1 ≤ L), rdV_at hL (by omega : a + 1 + 1 + 1 ≤ L), rdV_at hL (by omega : a + 1 + 1 + 1 + 1 ≤ L), rdV_at hL (by omega : a + 1 + 1 + 1 + 1 + 2 ≤ L), rdV_at hL (by omega : a + 1 + 1 + 1 + 1 + 2 + 2 ≤ L), rdV_at hL (by omega : a + 1 + 1 + 1 + 1 + 2 + 2 + 4 ≤ L), rdV_at hL (by omega : a + 1 + 1 + 1 + 1 + 2 + 2 + 4 + 4 ≤ L), rdV_at hL (by omega : a + 1 + 1 + 1 + 1 + 2 + 2 + 4 + 4 + 4 ≤ L), rdV_at hL (by omega : a + 1 + 1 + 1 + 1 + 2 + 2 + 4 + 4 + 4 + 4 ≤ L), rdV_at hL (by omega : a + 1 + 1 + 1 + 1 + 2 + 2 + 4 + 4 + 4 + 4 + 4 ≤ L)]
theorem decLk_at {bs : List Nat} {p L : Nat} (hL : bs.length = L) (h : p + 8 ≤ L) : decLk (bs.drop p, false) = ((((num ((bs.drop p).take 4) : Nat) : Int), ((num ((bs.drop (p + 4)).take 2) : Nat) : Int), ((num ((bs.drop (p + 6)).take 2) : Nat) : Int)), (bs.drop (p + 8), false)) := by
  unfold decLk
  rw [rdR_at hL (by omega : p + 4 ≤ L), rdR_at hL (by omega : p + 4 + 2 ≤ L), rdR_at hL (by omega : p + 4 + 2 + 2 ≤ L), rdV_at hL (by omega : p + 4 ≤ L), rdV_at hL (by omega : p + 4 + 2 ≤ L), rdV_at hL (by omega : p + 4 + 2 + 2 ≤ L)]
theorem decSt_at {bs : List Nat} {p L : Nat} (hL : bs.length = L) (h : p + 7 ≤ L) : decSt (bs.drop p, false) = ((((num ((bs.drop p).take 4) : Nat) : Int), ((num ((bs.drop (p + 4)).take 1) : Nat) : Int), ((num ((bs.drop (p + 5)).take 2) : Nat) : Int)), (bs.drop (p + 7), false)) := by
  unfold decSt
  rw [rdR_at hL (by omega : p + 4 ≤ L), rdR_at hL (by omega : p + 4 + 1 ≤ L), rdR_at hL (by omega : p + 4 + 1 + 2 ≤ L), rdV_at hL (by omega : p + 4 ≤ L), rdV_at hL (by omega : p + 4 + 1 ≤ L), rdV_at hL (by omega : p + 4 + 1 + 2 ≤ L)]
end Go.Proofs.Ytagfdmkgnedlbae.Ls
