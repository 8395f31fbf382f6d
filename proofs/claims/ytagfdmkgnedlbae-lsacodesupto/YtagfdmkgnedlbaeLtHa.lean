/- The document's LsaDecode: what it answers. -/
import Derived.Test.YtagfdmkgnedlbaeLtG
import Derived.Test.YtagfdmkgnedlbaeLtC
import Derived.Test.YtagfdmkgnedlbaeLsY
namespace Go.Proofs.Ytagfdmkgnedlbae.Ls
open Go.ChangeShapes Go.WideShapes Go.ChangeAt Go.RowKit Go.Joins Go.Proofs.Ytagfdmkgnedlbae.PM Go.Proofs.Ytagfdmkgnedlbae.Ask
set_option linter.unusedVariables false

/-- the boxes of LsaDecode: what it answers (zero), none (zero), and what it reads into -/
structure DI (w : World) (sp : Nat) (kind frm area seen : Int) (lv : Value) (W : World) : Prop where
  bel : Below w.heap.size w W
  bx : PBox sp kind frm area seen lv W
  fx : ∀ i, W.frozen? ⟨sp, i, none⟩ = false
  zx : PBox w.heap.size 0 0 0 0 (.slice none 0 0) W
  fz : ∀ i, W.frozen? ⟨w.heap.size, i, none⟩ = false
  nx : PBox (w.heap.size + 1) 0 0 0 0 (.slice none 0 0) W
  lo : w.heap.size + 1 < sp
  sz : sp < W.heap.size
section
variable {w : World} {sp : Nat} {kind frm area seen : Int} {lv : Value} {W W' : World}
theorem DI.keep (h : DI w sp kind frm area seen lv W) (hb : Below (w.heap.size + 2) W W') (h1 : W'.heap[sp]? = W.heap[sp]?) : DI w sp kind frm area seen lv W' :=
  ⟨h.bel.trans (hb.mono (by omega)), h.bx.blk h1, fun i => (World.frozen?_of_block (w := W) h1).trans (h.fx i), h.zx.blk (hb.block _ (by omega)), fun i => (World.frozen?_of_block (w := W) (hb.block w.heap.size (by omega))).trans (h.fz i), h.nx.blk (hb.block _ (by omega)), h.lo, Nat.lt_of_lt_of_le h.sz hb.size⟩
theorem DI.next (h : DI w sp kind frm area seen lv W) (hb : Below W.heap.size W W') : DI w sp kind frm area seen lv W' := by
  have := h.sz
  have := h.lo
  exact h.keep (hb.mono (by omega)) (hb.block _ (by omega))
theorem DI.grown {o : Option Nat} (h : DI w sp kind frm area seen lv W) (hg : W.grownBy W' o) (ho : ∀ g, o = some g → sp + 1 ≤ g) : DI w sp kind frm area seen lv W' := by
  have h2 := h.sz
  have h3 := h.lo
  have hb : Below (sp + 1) W W' := (Below.refl _ W).grown hg h2 ho
  exact h.keep (hb.mono (by omega)) (hb.block _ (by omega))
theorem DI.set4 (h : DI w sp kind frm area seen lv W) (v : Value) : DI w sp kind frm area seen v (W.setCell ⟨sp, 4, none⟩ v) := by
  have hl := h.lo
  obtain ⟨c0, c1, c2, c3, c4⟩ := h.bx
  refine ⟨h.bel.setCell (p := ⟨sp, 4, none⟩) (by show _ ≤ sp; omega) _, ⟨?_, ?_, ?_, ?_, ?_⟩, fun i => by rw [World.frozen?_setCell]; exact h.fx i, h.zx.blk (Below.heap_setCell W ⟨sp, 4, none⟩ _ _ (by show _ ≠ sp; omega)), fun i => by rw [World.frozen?_setCell]; exact h.fz i, h.nx.blk (Below.heap_setCell W ⟨sp, 4, none⟩ _ _ (by show _ ≠ sp; omega)), h.lo, by simpa using h.sz⟩
  all_goals first
    | exact World.cell?_setCell_same' _ _ _ (by rw [c4]; rfl)
    | (rw [World.cell?_setCell_other _ _ _ _ (by intro e; injection e with _ e2 _; cases e2)]; assumption)
end
/-- the first two boxes -/
structure DZ (w W : World) : Prop where
  bel : Below w.heap.size w W
  zx : PBox w.heap.size 0 0 0 0 (.slice none 0 0) W
  fz : ∀ i, W.frozen? ⟨w.heap.size, i, none⟩ = false
  nx : PBox (w.heap.size + 1) 0 0 0 0 (.slice none 0 0) W
  sz : w.heap.size + 2 ≤ W.heap.size
theorem DZ.next {w W W' : World} (h : DZ w W) (hb : Below W.heap.size W W') : DZ w W' := by
  have := h.sz
  exact ⟨h.bel.trans (hb.mono (by omega)), h.zx.blk (hb.block _ (by omega)), fun i => (World.frozen?_of_block (w := W) (hb.block w.heap.size (by omega))).trans (h.fz i), h.nx.blk (hb.block _ (by omega)), Nat.le_trans h.sz hb.size⟩
theorem dz_new {w W : World} (hW : (w.alloc (Obj.cells #[.int .i64 0, .int .i64 0, .int .i64 0, .int .i64 0, .slice none 0 0] 36)).alloc (Obj.cells #[.int .i64 0, .int .i64 0, .int .i64 0, .int .i64 0, .slice none 0 0] 36) = W) : DZ w W := by
  obtain ⟨w1, h1⟩ : ∃ w1, w.alloc (Obj.cells #[.int .i64 0, .int .i64 0, .int .i64 0, .int .i64 0, .slice none 0 0] 36) = w1 := ⟨_, rfl⟩
  rw [h1] at hW
  obtain ⟨a1, a2, a3, a4⟩ := pbox_new h1
  obtain ⟨b1, b2, b3, b4⟩ := pbox_new hW
  rw [a4] at b1
  exact ⟨a3.trans (b3.mono (by omega)), a1.blk (b3.block _ (by omega)), fun i => (World.frozen?_of_block (w := w1) (b3.block w.heap.size (by omega))).trans (a2 i), b1, by omega⟩
def U8 (r : Rst) : Prop := ∀ d ∈ r.1, d < 256
theorem rdR_u8 {n : Nat} {r : Rst} (h : U8 r) : U8 (rdR n r) := fun d hd => by
  unfold rdR at hd
  split at hd
  · exact h d (List.mem_of_mem_drop hd)
  · cases hd
theorem decLk_64 (r : Rst) (h : U8 r) : In64 (decLk r).1.2.1 ∧ U8 (decLk r).2 := by
  have h1 := rdV_lt (rdR_u8 (n := 4) h) 2
  refine ⟨?_, rdR_u8 (rdR_u8 (rdR_u8 h))⟩
  show -9223372036854775808 ≤ ((rdV 2 (rdR 4 r) : Nat) : Int) ∧ ((rdV 2 (rdR 4 r) : Nat) : Int) ≤ 9223372036854775807
  omega
theorem decSt_u8 (r : Rst) (h : U8 r) : True ∧ U8 (decSt r).2 := ⟨trivial, rdR_u8 (rdR_u8 (rdR_u8 h))⟩
theorem decN_all {α : Type} {f : Rst → α × Rst} {P : α → Prop} (hf : ∀ r, U8 r → P (f r).1 ∧ U8 (f r).2) : ∀ (n : Nat) (r : Rst), U8 r → (∀ x ∈ (decN f n r).1, P x) ∧ U8 (decN f n r).2
  | 0, r, h => ⟨(fun x hx => by cases hx), h⟩
  | n + 1, r, h => by
    obtain ⟨h1, h2⟩ := hf r h
    obtain ⟨h3, h4⟩ := decN_all hf n (f r).2 h2
    refine ⟨fun x hx => ?_, h4⟩
    rcases List.mem_cons.1 hx with rfl | hx
    · exact h1
    · exact h3 x hx
theorem hdR_u8 : ∀ (l : List Nat) (r : Rst), U8 r → U8 (hdR l r)
  | [], r, h => h
  | n :: l, r, h => hdR_u8 l (rdR n r) (rdR_u8 h)
/-- the costs of links that were read -/
theorem decL_64 (r : Rst) (h : U8 r) : (∀ d ∈ (decL r).1.links, In64 d.2.1) ∧ U8 (decL r).2 := by
  unfold decL
  dsimp only
  obtain ⟨h1, h2⟩ := decN_all (P := fun d : Int × Int × Int => In64 d.2.1) decLk_64 (rdV 1 (hdR [1] r)) (hdR [1, 1, 1, 1, 2, 2, 4, 4, 4, 4, 4] r) (hdR_u8 _ _ h)
  exact ⟨h1, (decN_all (P := fun _ => True) decSt_u8 _ _ h2).2⟩
end Go.Proofs.Ytagfdmkgnedlbae.Ls
