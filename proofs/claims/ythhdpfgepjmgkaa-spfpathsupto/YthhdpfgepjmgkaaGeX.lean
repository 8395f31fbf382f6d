/- Boxes that a call makes, and lists that it makes beside them. -/
import Derived.Test.YthhdpfgepjmgkaaGeC
namespace Go.Proofs.Ythhdpfgepjmgkaa.Ge
open Go.ChangeShapes Go.WideShapes Go.ChangeAt Go.RowKit Go.Joins Go.Deep
set_option linter.unusedVariables false

/-- boxes that a call has made -/
structure Bxs (w : World) (L : List (Sk × Nat × List Value)) (W : World) : Prop where
  bel : Below w.heap.size w W
  at_ : ∀ (i : Nat) (x : Sk × Nat × List Value), L[i]? = some x → SB x.1 x.2.1 x.2.2 W ∧ w.heap.size ≤ x.2.1
  ne : ∀ (i j : Nat) (x y : Sk × Nat × List Value), L[i]? = some x → L[j]? = some y → i ≠ j → x.2.1 ≠ y.2.1
theorem Bxs.nil (w : World) : Bxs w [] w := ⟨Below.refl _ _, (fun i x h => by cases h), (fun i j x y h => by cases h)⟩
theorem Bxs.get {w W : World} {L : List (Sk × Nat × List Value)} (h : Bxs w L W) (i : Nat) {T : Sk} {b : Nat} {cs : List Value} (hx : L[i]? = some (T, b, cs)) : SB T b cs W := (h.at_ i _ hx).1
theorem Bxs.step {w W W' : World} {L : List (Sk × Nat × List Value)} (h : Bxs w L W) (hb : Below W.heap.size W W') : Bxs w L W' :=
  ⟨h.bel.trans (hb.mono h.bel.size), fun i x hx => ⟨(h.at_ i x hx).1.blk (hb.block _ (h.at_ i x hx).1.lt), (h.at_ i x hx).2⟩, h.ne⟩
theorem Bxs.new {w W W' : World} {L : List (Sk × Nat × List Value)} {T : Sk} {b : Nat} {cs : List Value} (h : Bxs w L W) (hb : W.heap.size = b) (hs : SB T b cs W') (hbl : Below W.heap.size W W') : Bxs w (L ++ [(T, b, cs)]) W' := by
  have h' := h.step hbl
  have old : ∀ (i : Nat) (x : Sk × Nat × List Value), L[i]? = some x → x.2.1 < b := fun i x hx => by have := (h.at_ i x hx).1.lt; omega
  refine ⟨h'.bel, fun i x hx => ?_, fun i j x y hx hy hij => ?_⟩
  · by_cases hi : i < L.length
    · rw [List.getElem?_append_left hi] at hx; exact h'.at_ i x hx
    · rw [List.getElem?_append_right (by omega)] at hx
      match hk : i - L.length, hx with
      | 0, hx => cases hx; exact ⟨hs, by have := h.bel.size; show _ ≤ b; omega⟩
      | k + 1, hx => simp at hx
  · by_cases hi : i < L.length
    · rw [List.getElem?_append_left hi] at hx
      by_cases hj : j < L.length
      · rw [List.getElem?_append_left hj] at hy; exact h.ne i j x y hx hy hij
      · rw [List.getElem?_append_right (by omega)] at hy
        match hk : j - L.length, hy with
        | 0, hy => cases hy; have := old i x hx; show _ ≠ b; omega
        | k + 1, hy => simp at hy
    · rw [List.getElem?_append_right (by omega)] at hx
      match hk : i - L.length, hx with
      | 0, hx =>
        cases hx
        by_cases hj : j < L.length
        · rw [List.getElem?_append_left hj] at hy; have := old j y hy; show b ≠ _; omega
        · rw [List.getElem?_append_right (by omega)] at hy
          match hk2 : j - L.length, hy with
          | 0, hy => omega
          | k + 1, hy => simp at hy
      | k + 1, hx => simp at hx
theorem Bxs.upd {w W W' : World} {L : List (Sk × Nat × List Value)} (h : Bxs w L W) (i : Nat) {T : Sk} {b : Nat} {cs cs' : List Value} (hx : L[i]? = some (T, b, cs)) (hs : SB T b cs' W') (hk : Ko W b W') : Bxs w (L.set i (T, b, cs')) W' := by
  have hw := (h.at_ i _ hx).2
  have hl : i < L.length := (List.getElem?_eq_some_iff.1 hx).1
  have adr : ∀ (j : Nat) (y : Sk × Nat × List Value), (L.set i (T, b, cs'))[j]? = some y → ∃ z, L[j]? = some z ∧ z.2.1 = y.2.1 ∧ (j ≠ i → z = y) ∧ (j = i → y = (T, b, cs')) := fun j y hy => by
    by_cases e : i = j
    · subst e
      rw [List.getElem?_set_self hl] at hy
      cases hy
      exact ⟨_, hx, rfl, fun c => absurd rfl c, fun _ => rfl⟩
    · rw [List.getElem?_set_ne e] at hy
      exact ⟨y, hy, rfl, fun _ => rfl, fun c => absurd c.symm e⟩
  refine ⟨h.bel.trans (hk.below hw), fun j y hy => ?_, fun j k y z hy hz hjk => ?_⟩
  · obtain ⟨z, hz, e1, e2, e3⟩ := adr j y hy
    by_cases e : j = i
    · rw [e3 e]; exact ⟨hs, hw⟩
    · rw [← e2 e]
      exact ⟨(h.at_ j z hz).1.blk (hk.block _ (h.ne j i z _ hz hx e)), (h.at_ j z hz).2⟩
  · obtain ⟨y', hy', e1, -⟩ := adr j y hy
    obtain ⟨z', hz', e2, -⟩ := adr k z hz
    rw [← e1, ← e2]
    exact h.ne j k y' z' hy' hz' hjk
theorem Bxs.lts {w W : World} {L : List (Sk × Nat × List Value)} (h : Bxs w L W) : ∀ b ∈ L.map (fun x => x.2.1), b < W.heap.size := fun b hb => by
  obtain ⟨x, hx, rfl⟩ := List.mem_map.1 hb
  obtain ⟨i, hi, e⟩ := List.mem_iff_getElem.1 hx
  exact (h.at_ i x (by rw [List.getElem?_eq_getElem hi, e])).1.lt
theorem Bxs.los {w W : World} {L : List (Sk × Nat × List Value)} (h : Bxs w L W) : ∀ b ∈ L.map (fun x => x.2.1), w.heap.size ≤ b := fun b hb => by
  obtain ⟨x, hx, rfl⟩ := List.mem_map.1 hb
  obtain ⟨i, hi, e⟩ := List.mem_iff_getElem.1 hx
  exact (h.at_ i x (by rw [List.getElem?_eq_getElem hi, e])).2
/-- a field of a box is set -/
theorem Bxs.fld {w W : World} {L : List (Sk × Nat × List Value)} (h : Bxs w L W) (i k : Nat) (v : Value) {T : Sk} {b : Nat} {cs cs' : List Value} (hx : L[i]? = some (T, b, cs)) (he : cs.set k v = cs') : Bxs w (L.set i (T, b, cs')) (W.setCell ⟨b, k, none⟩ v) :=
  h.upd i hx ((h.get i hx).set k v he) (Ko.set _ _ _ _)

def adr (L : List (Sk × Nat × List Value)) : List Nat := L.map (fun x => x.2.1)
theorem Bxs.grown {w W W' : World} {L : List (Sk × Nat × List Value)} {o : Option Nat} (h : Bxs w L W) (hg : W.grownBy W' o) (ho : ∀ g, o = some g → w.heap.size ≤ g ∧ g ∉ adr L) : Bxs w L W' :=
  ⟨h.bel.grown hg h.bel.size (fun k e => (ho k e).1), fun i x hx => ⟨(h.at_ i x hx).1.blk (hg.block _ (h.at_ i x hx).1.lt (fun e => (ho _ e.symm).2 (List.mem_map.2 ⟨x, List.mem_of_getElem? hx, rfl⟩))), (h.at_ i x hx).2⟩, h.ne⟩
/-- a whole box is loaded -/
theorem bx_ld {ops : Array Oper} {rest : List Oper} {o : Oper} {ac : Act} {Q : Exit → Act → World → Prop} {w W : World} {L : List (Sk × Nat × List Value)} (h : Bxs w L W) (i : Nat) {T : Sk} {b : Nat} {cs : List Value} (hL : L[i]? = some (T, b, cs)) (hgd : o.guard = none) (x : Operand) (ho : o.op = .load T.t x) (hx : ac.eval x = .pointer (some ⟨b, 0, none⟩)) (hl : cs.length = T.k)
    (k : wpList Try.prog ops Q rest (ac.put o.dst (.agg cs.toArray)) W) : wpList Try.prog ops Q (o :: rest) ac W := list_sload T hgd x ho hx (h.get i hL) hl k
/-- a whole box is stored -/
theorem bx_st {ops : Array Oper} {rest : List Oper} {o : Oper} {ac : Act} {Q : Exit → Act → World → Prop} {w W : World} {L : List (Sk × Nat × List Value)} (h : Bxs w L W) (i : Nat) {T : Sk} {b : Nat} {cs : List Value} (hL : L[i]? = some (T, b, cs)) (hgd : o.guard = none) (x y : Operand) (ho : o.op = .store T.t x y) (hx : ac.eval x = .pointer (some ⟨b, 0, none⟩)) (cs' : List Value) (hy : ac.eval y = .agg cs'.toArray) (hl : cs.length = T.k) (hl' : cs'.length = T.k) (h1 : cs'.all (·.oneCell') = true)
    (k : ∀ W', Hid (Bxs w (L.set i (T, b, cs')) W') → Hid (Ko W b W') → wpList Try.prog ops Q rest (ac.put o.dst undef) W') : wpList Try.prog ops Q (o :: rest) ac W :=
  list_sstore T hgd x y ho hx hy (h.get i hL) hl hl' h1 (fun W' hs hk => k W' (h.upd i hL hs.out hk.out) hk)
theorem putI_run {o : Oper} {ρ : Operand → Value} {W : World} (x y : Operand) (ho : o.op = .store 3 x y) {b k : Nat} {u : Value} {z : Int} (hx : ρ x = .pointer (some ⟨b, k, none⟩)) (hy : ρ y = .int .i64 z) (hc : W.cell? ⟨b, k, none⟩ = some u) (hf : W.frozen? ⟨b, k, none⟩ = false) : (execOp ρ o).run Try.prog W = .ok .skip (W.setCell ⟨b, k, none⟩ (.int .i64 z)) := by
  unfold execOp
  rw [ho]
  simp [go_sem, hx, hy, hc, hf]
/-- a number is stored into a box -/
theorem bx_pI {ops : Array Oper} {rest : List Oper} {o : Oper} {ac : Act} {Q : Exit → Act → World → Prop} {w W : World} {L : List (Sk × Nat × List Value)} (h : Bxs w L W) (i k : Nat) (hgd : o.guard = none) (x y : Operand) (ho : o.op = .store 3 x y) {T : Sk} {b : Nat} {cs : List Value} {u : Value} {z : Int} (hL : L[i]? = some (T, b, cs)) (hx : ac.eval x = .pointer (some ⟨b, k, none⟩)) (hy : ac.eval y = .int .i64 z) (hk : cs[k]? = some u)
    (kk : ∀ W', Hid (Bxs w (L.set i (T, b, cs.set k (.int .i64 z))) W') → Hid (Ko W b W') → wpList Try.prog ops Q rest (ac.put o.dst undef) W') : wpList Try.prog ops Q (o :: rest) ac W := by
  refine wpList_plain hgd fun K hK => ?_
  unfold Oper.wp
  rw [putI_run x y ho hx hy (((h.get i hL).cell k).trans hk) ((h.get i hL).fro k)]
  exact hK _ _ (kk _ (h.fld i k _ hL rfl) (Ko.set _ _ _ _))
theorem putB_run {o : Oper} {ρ : Operand → Value} {W : World} (x y : Operand) (ho : o.op = .store 4 x y) {b k : Nat} {u : Value} {z : Bool} (hx : ρ x = .pointer (some ⟨b, k, none⟩)) (hy : ρ y = .bool z) (hc : W.cell? ⟨b, k, none⟩ = some u) (hf : W.frozen? ⟨b, k, none⟩ = false) : (execOp ρ o).run Try.prog W = .ok .skip (W.setCell ⟨b, k, none⟩ (.bool z)) := by
  unfold execOp
  rw [ho]
  simp [go_sem, hx, hy, hc, hf]
/-- a bool is stored into a box -/
theorem bx_pB {ops : Array Oper} {rest : List Oper} {o : Oper} {ac : Act} {Q : Exit → Act → World → Prop} {w W : World} {L : List (Sk × Nat × List Value)} (h : Bxs w L W) (i k : Nat) (hgd : o.guard = none) (x y : Operand) (ho : o.op = .store 4 x y) {T : Sk} {b : Nat} {cs : List Value} {u : Value} {z : Bool} (hL : L[i]? = some (T, b, cs)) (hx : ac.eval x = .pointer (some ⟨b, k, none⟩)) (hy : ac.eval y = .bool z) (hk : cs[k]? = some u)
    (kk : ∀ W', Hid (Bxs w (L.set i (T, b, cs.set k (.bool z))) W') → Hid (Ko W b W') → wpList Try.prog ops Q rest (ac.put o.dst undef) W') : wpList Try.prog ops Q (o :: rest) ac W := by
  refine wpList_plain hgd fun K hK => ?_
  unfold Oper.wp
  rw [putB_run x y ho hx hy (((h.get i hL).cell k).trans hk) ((h.get i hL).fro k)]
  exact hK _ _ (kk _ (h.fld i k _ hL rfl) (Ko.set _ _ _ _))
theorem putS_run {α : Type} (E : El α) (hs : ∀ W : World, (Go.sizeOf E.t).run Try.prog W = .ok 1 W) {o : Oper} {ρ : Operand → Value} {W : World} (x y : Operand) (ho : o.op = .store E.t x y) {b k : Nat} {u : Value} {a : Option Addr} {n c : Nat} (hx : ρ x = .pointer (some ⟨b, k, none⟩)) (hy : ρ y = .slice a n c) (hc : W.cell? ⟨b, k, none⟩ = some u) (hf : W.frozen? ⟨b, k, none⟩ = false) : (execOp ρ o).run Try.prog W = .ok .skip (W.setCell ⟨b, k, none⟩ (.slice a n c)) := by
  unfold execOp
  rw [ho]
  simp [go_sem, hx, hy, hc, hf, hs]
/-- a slice is stored into a box -/
theorem bx_pS {α : Type} (E : El α) (hs : ∀ W : World, (Go.sizeOf E.t).run Try.prog W = .ok 1 W) {ops : Array Oper} {rest : List Oper} {o : Oper} {ac : Act} {Q : Exit → Act → World → Prop} {w W : World} {L : List (Sk × Nat × List Value)} (h : Bxs w L W) (i k : Nat) (hgd : o.guard = none) (x y : Operand) (ho : o.op = .store E.t x y) {T : Sk} {b : Nat} {cs : List Value} {u : Value} {a : Option Addr} {n c : Nat} (hL : L[i]? = some (T, b, cs)) (hx : ac.eval x = .pointer (some ⟨b, k, none⟩)) (hy : ac.eval y = .slice a n c) (hk : cs[k]? = some u)
    (kk : ∀ W', Hid (Bxs w (L.set i (T, b, cs.set k (.slice a n c))) W') → Hid (Ko W b W') → wpList Try.prog ops Q rest (ac.put o.dst undef) W') : wpList Try.prog ops Q (o :: rest) ac W := by
  refine wpList_plain hgd fun K hK => ?_
  unfold Oper.wp
  rw [putS_run E hs x y ho hx hy (((h.get i hL).cell k).trans hk) ((h.get i hL).fro k)]
  exact hK _ _ (kk _ (h.fld i k _ hL rfl) (Ko.set _ _ _ _))
/-- a list that the call makes, beside its boxes -/
structure OB {α : Type} (E : El α) (N : Nat) (bs : List Nat) (W : World) (v : Value) (xs : List α) : Prop where
  own : OwnL E N W v xs
  ap : ∀ g, v.ownBlock = some g → g ∉ bs
theorem OB.nil {α : Type} (E : El α) (N : Nat) (bs : List Nat) (W : World) : OB E N bs W (.slice none 0 0) [] := ⟨OwnL.nil E N W, fun g e => by cases e⟩
theorem OB.bel {α : Type} {E : El α} {N : Nat} {bs : List Nat} {W W' : World} {v : Value} {xs : List α} (h : OB E N bs W v xs) (hb : Below W.heap.size W W') : OB E N bs W' v xs := ⟨h.own.bel hb, h.ap⟩
theorem OB.ko {α : Type} {E : El α} {N : Nat} {bs : List Nat} {W W' : World} {v : Value} {xs : List α} {b : Nat} (h : OB E N bs W v xs) (hk : Ko W b W') (hb : b ∈ bs) : OB E N bs W' v xs := ⟨h.own.blk (fun g e => hk.block g (fun e2 => h.ap g e (e2 ▸ hb))), h.ap⟩
theorem OB.app {α : Type} {E : El α} {N : Nat} {bs : List Nat} {W W' : World} {v v' : Value} {xs ys : List α} (h : OB E N bs W v xs) (ho : OwnL E N W' v' ys) (hat : v'.ownBlock = v.ownBlock ∨ v'.ownBlock = some W.heap.size) (hlt : ∀ b ∈ bs, b < W.heap.size) : OB E N bs W' v' ys :=
  ⟨ho, fun g e => by
    rcases hat with c | c
    · exact h.ap g (c ▸ e)
    · rw [c] at e; cases e; exact fun hm => Nat.lt_irrefl _ (hlt _ hm)⟩
theorem OB.for {α : Type} {E : El α} {w W : World} {L : List (Sk × Nat × List Value)} {v : Value} {xs : List α} (h : OB E w.heap.size (adr L) W v xs) : ∀ g, v.ownBlock = some g → w.heap.size ≤ g ∧ g ∉ adr L := fun g e => ⟨(h.own.row.lt g e).1, h.ap g e⟩
theorem Bxs.adrs {w W : World} {L : List (Sk × Nat × List Value)} (h : Bxs w L W) : ∀ b ∈ adr L, b < W.heap.size := h.lts
end Go.Proofs.Ythhdpfgepjmgkaa.Ge
