/- lsaDecodes: its memory. -/
import Derived.Test.YtagfdmkgnedlbaeLtH
import Derived.Test.YtagfdmkgnedlbaeLtD
import Derived.Test.YtagfdmkgnedlbaeLtK
import Derived.Test.YtagfdmkgnedlbaeLtL
namespace Go.Proofs.Ytagfdmkgnedlbae.Ls
open Go.ChangeShapes Go.WideShapes Go.ChangeAt Go.RowKit Go.Joins Go.Proofs.Ytagfdmkgnedlbae.PM Go.Proofs.Ytagfdmkgnedlbae.Ask
set_option linter.unusedVariables false

theorem OwnB.blk {N : Nat} {w w' : World} {v : Value} {bs : List Nat} (h : OwnB N w v bs) (hb : ∀ g, v.ownBlock = some g → w'.heap[g]? = w.heap[g]?) : OwnB N w' v bs := ⟨row_blk h.row hb⟩
theorem DO.keepP {M : Nat} {W W' : World} {v : Value} {ys : List It} (h : DO M W v ys) (hb : ∀ b, (b ∈ blocks ys ∨ v.ownBlock = some b) → W'.heap[b]? = W.heap[b]?) : DO M W' v ys :=
  ⟨row_blk h.row (fun g e => hb g (Or.inr e)), fun y hy => (h.its y hy).blk (fun b hb2 => hb b (Or.inl (List.mem_flatMap.2 ⟨y, hy, hb2⟩))), h.nd, h.ap⟩
/-- what lsaDecodes holds beside the packet that it spoils -/
structure DC (w : World) (p : Pk) (n bW B bT : Nat) (vaW : Option Addr) (cW : Nat) (ysW : List It) (vaO : Option Addr) (cO : Nat) (vaT : Option Addr) (cT : Nat) (ysT : List It) (W : World) : Prop where
  bel : Below w.heap.size w W
  want : DO w.heap.size W (.slice vaW n cW) ysW
  wl : ∀ b, (b ∈ blocks ysW ∨ (Value.slice vaW n cW).ownBlock = some b) → b < bW
  xw : PBox bW p.kind p.frm p.area p.seen (.slice vaW n cW) W
  xo : PBox B p.kind p.frm p.area p.seen (.slice vaO n cO) W
  two : DO w.heap.size W (.slice vaT n cT) ysT
  tl : ∀ b, (b ∈ blocks ysT ∨ (Value.slice vaT n cT).ownBlock = some b) → B < b
  xt : PBox bT p.kind p.frm p.area p.seen (.slice vaT n cT) W
  o1 : w.heap.size ≤ bW
  o2 : bW < B
  o3 : B < bT
  o4 : bT < W.heap.size
theorem DC.fr {w : World} {p : Pk} {n bW B bT : Nat} {vaW : Option Addr} {cW : Nat} {ysW : List It} {vaO : Option Addr} {cO : Nat} {vaT : Option Addr} {cT : Nat} {ysT : List It} {W W' : World} {S : List Nat} (h : DC w p n bW B bT vaW cW ysW vaO cO vaT cT ysT W) (hf : Fr S W W') (hS : ∀ b ∈ S, bW < b ∧ b < B) : DC w p n bW B bT vaW cW ysW vaO cO vaT cT ysT W' := by
  have h1 := h.o1
  have h2 := h.o2
  have h3 := h.o3
  have h4 := h.o4
  have hk : ∀ b, b < W.heap.size → (b ≤ bW ∨ B ≤ b) → W'.heap[b]? = W.heap[b]? := fun b hb hor => hf.block b hb (fun e => by have := hS b e; omega)
  have hlt : ∀ {M : Nat} {v : Value} {ys : List It}, DO M W v ys → ∀ b, (b ∈ blocks ys ∨ v.ownBlock = some b) → b < W.heap.size := fun hd b hb => by
    rcases hb with e | e
    · exact (hd.blt b e).2
    · exact (hd.row.lt b e).2
  exact ⟨h.bel.trans (hf.below (by omega) (fun b hb => by have := hS b hb; omega)), h.want.keepP (fun b hb => hk b (hlt h.want b hb) (by have := h.wl b hb; omega)), h.wl, h.xw.blk (hk _ (by omega) (by omega)), h.xo.blk (hk _ (by omega) (by omega)), h.two.keepP (fun b hb => hk b (hlt h.two b hb) (by have := h.tl b hb; omega)), h.tl, h.xt.blk (hk _ (by omega) (by omega)), h1, h2, h3, Nat.lt_of_lt_of_le h4 hf.size⟩
/-- what is left of the packet that is spoilt -/
structure LO (A g : Nat) (ys : List It) (k : Nat) (W : World) : Prop where
  its : ∀ j (hj : j < ys.length), k ≤ j → ItOk A W ys[j] ∧ ∀ i, i < 11 → W.cell? ⟨g, j * 11 + i, none⟩ = ys[j].cells[i]?
  fz : 0 < ys.length → ∀ i, W.frozen? ⟨g, i, none⟩ = false
theorem LO.one {A g k : Nat} {ys : List It} {W W' : World} (h : LO A g ys k W) (hk : k < ys.length) (hnd : (blocks ys).Nodup) (hgl : g < W.heap.size) (hg : ¬ g ∈ blocks ys) (hf : Fr ys[k].bl W W') : W'.heap[g]? = W.heap[g]? ∧ ∀ i, LO A g ys (k + 1) (W'.setCell ⟨g, k * 11 + 5, none⟩ (.int .i64 i)) := by
  obtain ⟨n1, n2, n3⟩ := blocks_split hk hnd
  have hgb : W'.heap[g]? = W.heap[g]? := hf.block g hgl (fun e => hg (n2 g e))
  refine ⟨hgb, fun i => ⟨fun j hj hkj => ?_, fun h0 m => ?_⟩⟩
  · obtain ⟨h1, h2⟩ := h.its j hj (by omega)
    refine ⟨h1.blk (fun b hb => ?_), fun m hm => ?_⟩
    · have hbg : ¬ b = g := fun e => by
        subst e
        exact hg (List.mem_flatMap.2 ⟨ys[j], List.getElem_mem hj, hb⟩)
      rw [Below.heap_setCell _ _ _ _ (by show b ≠ g; exact hbg)]
      exact hf.block b (h1.lt b hb).2 (n3 j hj (by omega) b hb)
    · rw [World.cell?_setCell_other _ _ _ _ (by intro e; injection e with _ e2 _; omega), World.cell?_of_block (w := W) hgb]
      exact h2 m hm
  · rw [World.frozen?_setCell, World.frozen?_of_block (w := W) hgb]
    exact h.fz h0 m
/-- bytes that came in are appended -/
theorem list_appX {ops : Array Oper} {rest : List Oper} {o : Oper} {a : Act} {Q : Exit → Act → World → Prop} (hgd : o.guard = none) (s x : Operand)
    (ho : o.op = .call { callee := .builtin .append, args := #[s, x], argTypes := #[37, 37] }) (N : Nat) (v : Value) (bs cs : List Nat) (va : Option Addr) (n cap : Nat) (W : World) (hs : a.eval s = v) (hown : OwnB N W v bs)
    (hx : a.eval x = .slice va n cap) (hsrc : By W va cs) (hnil : va = none → n = 0 ∧ cap = 0) (hn : cs.length = n) (hby : bs.length + n ≤ 2097152) (hN : N ≤ W.heap.size)
    (h : ∀ v' w', Hid (OwnB N w' v' (bs ++ cs)) → Hid (W.grownBy w' v.ownBlock) → wpList Try.prog ops Q rest (a.put o.dst v') w') :
    wpList Try.prog ops Q (o :: rest) a W := by
  obtain ⟨i0, hi, hz0, hz1, hz2⟩ := info_parts info8
  cases va with
  | none =>
    obtain ⟨rfl, rfl⟩ := hnil rfl
    have e0 : cs = [] := List.length_eq_zero_iff.1 hn
    subst e0
    refine wpList_append_own_none hgd s x 37 ho N 5 i0 1 Try.underlying37 hi v bs.length (bcs bs) hs hown.row hx ?_
    exact h v W (by rw [List.append_nil]; exact hown) ⟨rfl, rfl, rfl, Nat.le_refl _, fun _ _ _ => rfl⟩
  | some ad =>
    refine wpList_append_own_at _ hgd s x 37 ho N 5 i0 _ 1 1 Try.underlying37 hi hz0 hz1 hz2 rfl (by decide) v bs.length (bcs bs) hs hown.row ad n cap (bcs cs) hx (by simp [bcs, hn]) ?_ (bcs_one cs) (by unfold maxLen; omega) (by omega) hN ?_
    · intro j u hj
      have hlt : j < cs.length := by
        have := (List.getElem?_eq_some_iff.1 hj).1
        simpa [bcs] using this
      obtain ⟨b, o', e, -, hc⟩ := hsrc.cells j hlt
      cases e
      rw [Addr.add_lit, hc]
      simp [bcs, hlt] at hj
      rw [← hj]
    · intro v' w' h2 h3 _ h5
      exact h v' w' ⟨by unfold bcs at h2 ⊢; rw [List.map_append, List.length_append, hn]; exact h2⟩ h3
/-- an empty list that was just made -/
theorem own_empty {W W' : World} (h : W.alloc (Obj.cells #[] 5) = W') : OwnB W.heap.size W' (.slice (some ⟨W.heap.size, 0, none⟩) 0 0) [] ∧ Below W.heap.size W W' := by
  subst h
  exact ⟨⟨rfl, .inr ⟨W.heap.size, 0, #[], rfl, Nat.le_refl _, World.alloc_heap_new W _, Nat.le_refl _, by unfold maxLen; omega, rfl, rfl⟩⟩, (Below.refl _ W).alloc (Nat.le_refl _) _⟩
theorem three_cells {W : World} {g a b c : Nat} {T : TypeId} (h : W.heap[g]? = some (Obj.cells #[.int .u8 (a : Int), .int .u8 (b : Int), .int .u8 (c : Int)] T)) : ∀ j (h : j < [a, b, c].length), W.cell? ⟨g, j, none⟩ = some (.int .u8 ([a, b, c][j] : Int)) := by
  intro j hj
  match j, hj with
  | 0, _ => simp [World.cell?, h]
  | 1, _ => simp [World.cell?, h]
  | 2, _ => simp [World.cell?, h]
theorem by_three {W W' : World} (h : W.alloc (Obj.cells #[.int .u8 1, .int .u8 2, .int .u8 3] 5) = W') : By W' (some ⟨W.heap.size, 0, none⟩) [1, 2, 3] ∧ Below W.heap.size W W' := by
  subst h
  refine ⟨⟨by decide, fun i hi => ⟨W.heap.size, 0, rfl, by simp, ?_⟩, by decide⟩, (Below.refl _ W).alloc (Nat.le_refl _) _⟩
  rw [Nat.zero_add]
  exact three_cells (a := 1) (b := 2) (c := 3) (World.alloc_heap_new W _) i hi
theorem OwnB.mono {N N' : Nat} {w : World} {v : Value} {bs : List Nat} (h : OwnB N w v bs) (hN : N' ≤ N) : OwnB N' w v bs := ⟨row_mono h.row hN⟩
theorem OwnB.some {N : Nat} {w : World} {v : Value} {bs : List Nat} (h : OwnB N w v bs) (h0 : 0 < bs.length) : ∃ g c, v = .slice (some ⟨g, 0, none⟩) bs.length c ∧ N ≤ g ∧ g < w.heap.size ∧ bs.length ≤ c := by
  rcases h.row.2 with ⟨h1, h2⟩ | ⟨g, c, cur, h1, h2, h3, h4, h5⟩
  · omega
  · exact ⟨g, c, h1, h2, (Array.getElem?_eq_some_iff.1 h3).1, h4⟩
end Go.Proofs.Ytagfdmkgnedlbae.Ls
