/- FibPlays: the table, the book, the words, the addresses and the writes beside each other. -/
import Derived.Test.YtjhdjbhpofhiaabFeA
namespace Go.Proofs.Ytjhdjbhpofhiaab.Fb
open Go.ChangeShapes Go.WideShapes Go.ChangeAt Go.RowKit Go.Joins Go.Proofs.Ytjhdjbhpofhiaab.PM Go.Proofs.Ytjhdjbhpofhiaab.Ask
set_option linter.unusedVariables false

/-- what may turn: the table, the words, the writes -/
def XP (bt : Nat) (o1 o2 ou bw : Option Nat) (b : Nat) : Prop := b = bt ∨ some b = o1 ∨ some b = o2 ∨ some b = ou ∨ some b = bw
structure PQ (w : World) (bt bb N : Nat) (bw : Option Nat) (aa : Option Addr) (xs : List Int) (o1 o2 : Option Nat) (ms : List Int) (made : Int) (fr : List Int) (l : List (Int × Int × Int)) (u : Value) (mm : List Int) (W : World) : Prop where
  bel : Below w.heap.size w W
  tab : Tab (bt + 1) W bt ms made fr o1 o2
  own : OwnU N W u mm
  nu : ∀ g, u.ownBlock = some g → g ≠ bt ∧ some g ≠ o1 ∧ some g ≠ o2
  nw : ∀ g, bw = some g → (g ≠ bt ∧ some g ≠ o1 ∧ some g ≠ o2 ∧ u.ownBlock ≠ some g) ∧ N ≤ g ∧ g < W.heap.size
  adr : ∀ i (h : i < xs.length), ∃ b o, aa = some ⟨b, o, none⟩ ∧ (b < W.heap.size ∧ ¬ XP bt o1 o2 u.ownBlock bw b ∧ b ≠ bb) ∧ W.cell? ⟨b, o + i, none⟩ = some (.int .u32 xs[i])
  u32 : ∀ d ∈ xs, In32 d
  bk : Bok (XP bt o1 o2 u.ownBlock bw) bb bb l W
  lt : w.heap.size ≤ bt ∧ bt < N ∧ N ≤ W.heap.size ∧ w.heap.size ≤ bb
section
variable {w W W' : World} {bt bb N : Nat} {bw : Option Nat} {aa : Option Addr} {xs ms fr mm mm' ms' fr' : List Int} {o1 o2 o1' o2' : Option Nat} {made made' : Int} {l l' : List (Int × Int × Int)} {u u' : Value}
theorem PQ.next_bel (h : PQ w bt bb N bw aa xs o1 o2 ms made fr l u mm W) (hb : Below W.heap.size W W') : PQ w bt bb N bw aa xs o1 o2 ms made fr l u mm W' :=
  ⟨h.bel.trans (hb.mono h.bel.size), h.tab.bel hb, h.own.bel hb, h.nu, fun g e => ⟨(h.nw g e).1, (h.nw g e).2.1, Nat.lt_of_lt_of_le (h.nw g e).2.2 hb.size⟩, fun i hi => by
    obtain ⟨b, o, e, ⟨hlt, hx⟩, hc⟩ := h.adr i hi
    exact ⟨b, o, e, ⟨Nat.lt_of_lt_of_le hlt hb.size, hx⟩, cell_bel hc hb⟩, h.u32, h.bk.keep (keeps_bel hb), ⟨h.lt.1, h.lt.2.1, Nat.le_trans h.lt.2.2.1 hb.size, h.lt.2.2.2⟩⟩
/-- another book stands in the first one's place -/
theorem PQ.book (h : PQ w bt bb N bw aa xs o1 o2 ms made fr l u mm W) {va : Option Addr} {L cap : Nat} (hL : l'.length = L) (ha : Bk.Arr3 W va l') (hx : ∀ b o, va = some ⟨b, o, none⟩ → l' ≠ [] → ¬ XP bt o1 o2 u.ownBlock bw b ∧ b ≠ bb) :
    PQ w bt bb N bw aa xs o1 o2 ms made fr l' u mm (W.setCell ⟨bb, 0, none⟩ (.slice va L cap)) := by
  subst hL
  obtain ⟨l1, l2, l3, l4⟩ := h.lt
  obtain ⟨hbb, hbx⟩ := h.bk.ap
  have nb : ∀ b, b ≠ bb → (W.setCell ⟨bb, 0, none⟩ (.slice va l'.length cap)).heap[b]? = W.heap[b]? := fun b hne => Below.heap_setCell W _ _ b hne
  refine ⟨h.bel.setCell (p := ⟨bb, 0, none⟩) l4 _, h.tab.else ((Below.refl 0 W).setCell (p := ⟨bb, 0, none⟩) (Nat.zero_le _) _) (fun b hb hc => nb b (fun e => ?_)), ⟨row_kept h.own.row (fun g e => nb g (fun e2 => ?_)), h.own.u32⟩, h.nu, fun g e => ⟨(h.nw g e).1, (h.nw g e).2.1, by simpa using (h.nw g e).2.2⟩, fun i hi => ?_, h.u32, ⟨⟨by simpa using hbb, hbx⟩, va, cap, ?_, ?_, arr3_blocks ha (by simp) (fun b o e hl _ => nb b (hx b o e hl).2), hx⟩, ⟨l1, l2, by simpa using l3, l4⟩⟩
  · subst e
    rcases hc with e | e | e
    · exact hbx (.inl e)
    · exact hbx (.inr (.inl e))
    · exact hbx (.inr (.inr (.inl e)))
  · subst e2; exact hbx (.inr (.inr (.inr (.inl e.symm))))
  · obtain ⟨b, o, e, ⟨hlt, hx', hne⟩, hc⟩ := h.adr i hi
    exact ⟨b, o, e, ⟨by simpa using hlt, hx', hne⟩, (World.cell?_of_block (w := W) (nb b hne)).trans hc⟩
  · obtain ⟨va0, cap0, hc0, hf0, -, -⟩ := h.bk.book
    exact World.cell?_setCell_same' _ _ _ (by rw [hc0]; rfl)
  · obtain ⟨va0, cap0, hc0, hf0, -, -⟩ := h.bk.book
    rw [World.frozen?_setCell]; exact hf0
/-- a step of the table -/
theorem PQ.step (h : PQ w bt bb N none aa xs o1 o2 ms made fr l u mm W) {v : Value} {ws : List (Nat × Int)} (ht : Tab (bt + 1) W' bt ms' made' fr' o1' o2') (hk : KT bt W o1 o2 W' o1' o2') (ho : Own W.heap.size W' bt o1' o2' v ws) :
    PQ w bt bb N v.ownBlock aa xs o1' o2' ms' made' fr' l u mm W' := by
  obtain ⟨l1, l2, l3, l4⟩ := h.lt
  have hou : ∀ g, u.ownBlock = some g → N ≤ g ∧ g < W.heap.size := fun g e => h.own.row.lt g e
  have hov : ∀ g, v.ownBlock = some g → W.heap.size ≤ g ∧ g < W'.heap.size := fun g e => ho.row.lt g e
  have hs : w.heap.size ≤ W.heap.size := h.bel.size
  have K : Keeps (XP bt o1 o2 u.ownBlock none) W (XP bt o1' o2' u.ownBlock v.ownBlock) W' := ⟨hk.size, fun b hlt hx => by
    have h1 : b ≠ bt := fun e => hx (.inl e)
    have h2 : some b ≠ o1 := fun e => hx (.inr (.inl e))
    have h3 : some b ≠ o2 := fun e => hx (.inr (.inr (.inl e)))
    refine ⟨hk.block b hlt h1 h2 h3, ?_⟩
    rintro (e | e | e | e | e)
    · exact h1 e
    · exact hk.ne1 hlt h2 e
    · exact hk.ne2 hlt h3 e
    · exact hx (.inr (.inr (.inr (.inl e))))
    · have := (hov b e.symm).1; omega⟩
  refine ⟨h.bel.trans (hk.below hs l1 (fun g e => by have := (h.tab.in1 g e).1; omega) (fun g e => by have := (h.tab.in2 g e).1; omega)), ht, ⟨row_kept h.own.row (fun g e => ?_), h.own.u32⟩, fun g e => ?_, fun g e => ?_, fun i hi => ?_, h.u32, h.bk.keep K, ⟨l1, l2, Nat.le_trans l3 hk.size, l4⟩⟩
  · have hnu := h.nu g e
    exact hk.block g (hou g e).2 hnu.1 hnu.2.1 hnu.2.2
  · have hnu := h.nu g e
    exact ⟨hnu.1, hk.ne1 (hou g e).2 hnu.2.1, hk.ne2 (hou g e).2 hnu.2.2⟩
  · have hg := hov g e
    exact ⟨⟨by omega, (ho.n1 g e).1, (ho.n1 g e).2, fun e2 => by have := (hou g e2).2; omega⟩, by omega, hg.2⟩
  · obtain ⟨b, o, e, ⟨hlt, hx, hne⟩, hc⟩ := h.adr i hi
    have q := K.block b hlt hx
    exact ⟨b, o, e, ⟨Nat.lt_of_lt_of_le hlt K.size, q.2, hne⟩, (World.cell?_of_block (w := W) q.1).trans hc⟩
/-- a write into the words -/
theorem PQ.put (h : PQ w bt bb N bw aa xs o1 o2 ms made fr l u mm W) (ho : OwnU N W' u' mm') (kp : KO W u.ownBlock W' u'.ownBlock) : PQ w bt bb N bw aa xs o1 o2 ms made fr l u' mm' W' := by
  obtain ⟨l1, l2, l3, l4⟩ := h.lt
  have hou : ∀ g, u.ownBlock = some g → N ≤ g ∧ g < W.heap.size := fun g e => h.own.row.lt g e
  have K : Keeps (XP bt o1 o2 u.ownBlock bw) W (XP bt o1 o2 u'.ownBlock bw) W' := ⟨kp.size, fun b hlt hx => by
    have h1 : some b ≠ u.ownBlock := fun e => hx (.inr (.inr (.inr (.inl e))))
    refine ⟨kp.block b hlt h1, ?_⟩
    rintro (e | e | e | e | e)
    · exact hx (.inl e)
    · exact hx (.inr (.inl e))
    · exact hx (.inr (.inr (.inl e)))
    · exact kp.ne hlt h1 e
    · exact hx (.inr (.inr (.inr (.inr e))))⟩
  have hbt : bt < W.heap.size := Nat.lt_of_lt_of_le h.tab.lt h.tab.le
  refine ⟨⟨kp.str.os.trans h.bel.os, kp.str.tape.trans h.bel.tape, kp.str.output.trans h.bel.output, Nat.le_trans h.bel.size kp.size, fun b hb => ?_⟩, h.tab.else kp.str (fun b hb hc => kp.block b hb (fun e => ?_)), ho, fun g e => ?_, fun g e => ?_, fun i hi => ?_, h.u32, h.bk.keep K, ⟨l1, l2, Nat.le_trans l3 kp.size, l4⟩⟩
  · exact (kp.block b (by omega) (fun e => by have := (hou b e.symm).1; omega)).trans (h.bel.block b hb)
  · have hnu := h.nu b e.symm
    rcases hc with e | e | e
    · exact hnu.1 e
    · exact hnu.2.1 e
    · exact hnu.2.2 e
  · rcases kp.now with e2 | ⟨g2, e2, hg⟩
    · exact h.nu g (by rw [← e2, e])
    · rw [e2] at e; cases e
      exact ⟨by omega, fun e => by have := (h.tab.in1 _ e.symm).2; omega, fun e => by have := (h.tab.in2 _ e.symm).2; omega⟩
  · obtain ⟨⟨a1, a2, a3, a4⟩, a5, a6⟩ := h.nw g e
    exact ⟨⟨a1, a2, a3, fun e2 => kp.ne a6 (fun e3 => a4 e3.symm) e2.symm⟩, a5, Nat.lt_of_lt_of_le a6 kp.size⟩
  · obtain ⟨b, o, e, ⟨hlt, hx, hne⟩, hc⟩ := h.adr i hi
    have q := K.block b hlt hx
    exact ⟨b, o, e, ⟨Nat.lt_of_lt_of_le hlt K.size, q.2, hne⟩, (World.cell?_of_block (w := W) q.1).trans hc⟩
/-- the writes are spoilt -/
theorem PQ.spoil {g : Nat} (h : PQ w bt bb N (some g) aa xs o1 o2 ms made fr l u mm W) (i : Nat) (x : Value) : PQ w bt bb N (some g) aa xs o1 o2 ms made fr l u mm (W.setCell ⟨g, i, none⟩ x) := by
  obtain ⟨l1, l2, l3, l4⟩ := h.lt
  obtain ⟨⟨a1, a2, a3, a4⟩, a5, a6⟩ := h.nw g rfl
  have nb : ∀ b, b ≠ g → (W.setCell ⟨g, i, none⟩ x).heap[b]? = W.heap[b]? := fun b hne => Below.heap_setCell W _ _ b hne
  have K : Keeps (XP bt o1 o2 u.ownBlock (some g)) W (XP bt o1 o2 u.ownBlock (some g)) (W.setCell ⟨g, i, none⟩ x) := ⟨by simp, fun b hlt hx => ⟨nb b (fun e => hx (.inr (.inr (.inr (.inr (congrArg some e)))))), hx⟩⟩
  refine ⟨h.bel.setCell (p := ⟨g, i, none⟩) (by show _ ≤ g; omega) _, h.tab.else ((Below.refl 0 W).setCell (p := ⟨g, i, none⟩) (Nat.zero_le _) _) (fun b hb hc => nb b (fun e => ?_)), ⟨row_kept h.own.row (fun b e => nb b (fun e2 => ?_)), h.own.u32⟩, h.nu, fun b e => ⟨(h.nw b e).1, (h.nw b e).2.1, by simpa using (h.nw b e).2.2⟩, fun i hi => ?_, h.u32, h.bk.keep K, ⟨l1, l2, by simpa using l3, l4⟩⟩
  · subst e
    rcases hc with e | e | e
    · exact a1 e
    · exact a2 e
    · exact a3 e
  · subst e2; exact a4 e
  · obtain ⟨b, o, e, ⟨hlt, hx, hne⟩, hc⟩ := h.adr i hi
    have q := K.block b hlt hx
    exact ⟨b, o, e, ⟨by simpa using hlt, hx, hne⟩, (World.cell?_of_block (w := W) q.1).trans hc⟩
/-- the writes are forgotten -/
theorem PQ.forget (h : PQ w bt bb N bw aa xs o1 o2 ms made fr l u mm W) : PQ w bt bb N none aa xs o1 o2 ms made fr l u mm W := by
  have hx : ∀ b, ¬ XP bt o1 o2 u.ownBlock bw b → ¬ XP bt o1 o2 u.ownBlock none b := fun b hx => by
    rintro (e | e | e | e | e)
    · exact hx (.inl e)
    · exact hx (.inr (.inl e))
    · exact hx (.inr (.inr (.inl e)))
    · exact hx (.inr (.inr (.inr (.inl e))))
    · cases e
  exact ⟨h.bel, h.tab, h.own, h.nu, (fun g e => by cases e), fun i hi => by
    obtain ⟨b, o, e, ⟨hlt, h2, hne⟩, hc⟩ := h.adr i hi
    exact ⟨b, o, e, ⟨hlt, hx b h2, hne⟩, hc⟩, h.u32, h.bk.keep ⟨Nat.le_refl _, fun b _ h2 => ⟨rfl, hx b h2⟩⟩, h.lt⟩
end
theorem ad_ne {g i j : Nat} (h : i ≠ j) : (⟨g, i, none⟩ : Addr) ≠ ⟨g, j, none⟩ := fun e => by injection e with _ e2 _; exact h e2
/-- a list of writes whose words may be written over -/
structure Sp (va : Option Addr) (n : Nat) (W : World) : Prop where
  cells : ∀ i, i < n → ∃ g, va = some ⟨g, 0, none⟩ ∧ (∃ x y, W.cell? ⟨g, i * 2, none⟩ = some (.int .i64 x) ∧ W.cell? ⟨g, i * 2 + 1, none⟩ = some (.int .u32 y)) ∧ W.frozen? ⟨g, i * 2, none⟩ = false ∧ W.frozen? ⟨g, i * 2 + 1, none⟩ = false
theorem Sp.of {M : Nat} {W : World} {bt : Nat} {o1 o2 : Option Nat} {va : Option Addr} {n c : Nat} {ws : List (Nat × Int)} (h : Own M W bt o1 o2 (.slice va n c) ws) (hn : ws.length = n) : Sp va n W := by
  refine ⟨fun i hi => ?_⟩
  have hr := h.row
  rcases hr.2 with ⟨-, h0⟩ | ⟨g, c, cur, hv, hg, hb, -⟩
  · omega
  · cases hv
    have k : ∀ j, j < ws.length * 2 → W.cell? ⟨g, j, none⟩ = (wws ws)[j]? := fun j hj => hr.cellAt j hj
    have hx := wws_at ws i (by omega)
    exact ⟨g, rfl, ⟨_, _, (k _ (by omega)).trans hx.1, (k _ (by omega)).trans hx.2⟩, hr.frozenAt _, hr.frozenAt _⟩
theorem Sp.next {va : Option Addr} {n g : Nat} {W : World} (h : Sp va n W) (q : Nat) (hq : q < n) (hg : va = some ⟨g, 0, none⟩) (a b : Int) : Sp va n ((W.setCell ⟨g, q * 2, none⟩ (.int .i64 a)).setCell ⟨g, q * 2 + 1, none⟩ (.int .u32 b)) := by
  refine ⟨fun i hi => ?_⟩
  obtain ⟨g', e, ⟨x, y, h0, h1⟩, f0, f1⟩ := h.cells i hi
  rw [hg] at e; cases e
  refine ⟨g, hg, ?_, by rw [World.frozen?_setCell, World.frozen?_setCell]; exact f0, by rw [World.frozen?_setCell, World.frozen?_setCell]; exact f1⟩
  by_cases e : q = i
  · subst e
    refine ⟨a, b, ?_, ?_⟩
    · rw [World.cell?_setCell_other _ _ _ _ (ad_ne (by omega)), World.cell?_setCell_same' _ _ _ (by rw [h0]; rfl)]
    · rw [World.cell?_setCell_same' _ _ _ (by rw [World.cell?_setCell_other _ _ _ _ (ad_ne (by omega)), h1]; rfl)]
  · refine ⟨x, y, ?_, ?_⟩
    · rw [World.cell?_setCell_other _ _ _ _ (ad_ne (by omega)), World.cell?_setCell_other _ _ _ _ (ad_ne (by omega))]; exact h0
    · rw [World.cell?_setCell_other _ _ _ _ (ad_ne (by omega)), World.cell?_setCell_other _ _ _ _ (ad_ne (by omega))]; exact h1
theorem Sp.block {va : Option Addr} {n : Nat} {W W' : World} (h : Sp va n W) (hb : ∀ g, va = some ⟨g, 0, none⟩ → W'.heap[g]? = W.heap[g]?) : Sp va n W' := by
  refine ⟨fun i hi => ?_⟩
  obtain ⟨g, e, ⟨x, y, h0, h1⟩, f0, f1⟩ := h.cells i hi
  have hk := hb g e
  exact ⟨g, e, ⟨x, y, (World.cell?_of_block (w := W) hk).trans h0, (World.cell?_of_block (w := W) hk).trans h1⟩, (World.frozen?_of_block (w := W) hk).trans f0, (World.frozen?_of_block (w := W) hk).trans f1⟩
/-- the writes stay while the words are written -/
theorem Own.ko {M : Nat} {W W' : World} {bt : Nat} {o1 o2 ou ou' : Option Nat} {v : Value} {ws : List (Nat × Int)} (h : Own M W bt o1 o2 v ws) (kp : KO W ou W' ou') (hn : ∀ g, v.ownBlock = some g → ou ≠ some g) : Own M W' bt o1 o2 v ws :=
  ⟨row_kept h.row (fun g e => kp.block g (h.row.lt g e).2 (fun e2 => hn g e e2.symm)), h.n1, h.lt, h.u32⟩
theorem Own.bel {M : Nat} {W W' : World} {bt : Nat} {o1 o2 : Option Nat} {v : Value} {ws : List (Nat × Int)} (h : Own M W bt o1 o2 v ws) (hb : Below W.heap.size W W') : Own M W' bt o1 o2 v ws :=
  ⟨row_kept h.row (fun g e => hb.block g (h.row.lt g e).2), h.n1, h.lt, h.u32⟩
/-- between two steps -/
def LP (w : World) (bt bb N : Nat) (aa : Option Addr) (xs : List Int) (k M : Nat) (u : Value) (W : World) : Prop :=
  ∃ ms made fr o1 o2 t, PQ w bt bb N none aa xs o1 o2 ms made fr (TrM.allT t) u ms W ∧ Fit ms made fr t ∧ made ≤ 2 * M ∧ (TrM.allT t).length ≤ M ∧ M ≤ k
end Go.Proofs.Ytjhdjbhpofhiaab.Fb
