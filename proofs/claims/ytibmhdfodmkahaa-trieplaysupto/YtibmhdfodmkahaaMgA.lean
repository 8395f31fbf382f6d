/- trieMore; the lists of the law. The law's tries and books, in memory. TriePlays: what it answers. Whole structs in memory: loaded, stored, boxed. What each round of triePlay leans on. -/
import Derived.Test.YtibmhdfodmkahaaTuF
import Derived.Test.YtibmhdfodmkahaaTuI
import Derived.Deep.CutRange
import Derived.Deep.CutBlock
import Derived.Test.YtibmhdfodmkahaaGeA
import Derived.Deep.MidRow
import Derived.Laws.CopyOwn
import Derived.Lib.QuietBelow
import Derived.BigQuiet
namespace Go.Proofs.Ytibmhdfodmkahaa.Tu
open Go.ChangeShapes Go.WideShapes Go.ChangeAt Go.RowKit Go.Proofs.Ytibmhdfodmkahaa.PM Go.Proofs.Ytibmhdfodmkahaa.TrM Go.Proofs.Ytibmhdfodmkahaa.Ask Go.Proofs.Ytibmhdfodmkahaa.Tri
set_option linter.unusedVariables false

def EM : Ge.El (Int × Int × Int) := ⟨43, 38, 3, 24, .agg #[.int .u32 0, .int .i64 0, .int .i64 0], fun x => [.int .u32 x.1, .int .i64 x.2.1, .int .i64 x.2.2], by decide, by decide, fun _ => rfl, fun x u hu => by simp at hu; rcases hu with rfl | rfl | rfl <;> rfl, Try.underlying38, by kernel_rfl, rfl⟩
theorem arr_lst {W : World} {a : Option Addr} {l : List (Int × Int × Int)} (h : Ge.Lst EM W a l) (hu : ∀ d ∈ l, In32 d.1) : Arr3 W a l :=
  ⟨h.small, fun i hi => by
    obtain ⟨b, o, e, hl, hc⟩ := h.cells i hi
    exact ⟨b, o, e, hl, hc 0 (by decide), hc 1 (by decide), hc 2 (by decide)⟩, hu⟩
theorem to_bk {W : World} {a : Option Addr} {l : List (Int × Int × Int)} (h : Arr3 W a l) : Bk.Arr3 W a l := ⟨h.small, h.cells, h.u32⟩
theorem of_bk {W : World} {a : Option Addr} {l : List (Int × Int × Int)} (h : Bk.Arr3 W a l) : Arr3 W a l := ⟨h.small, h.cells, h.u32⟩
/-- list_app1, where the new block's number is written otherwise -/
theorem app_h {α : Type} {ops : Array Oper} {rest : List Oper} {o : Oper} {ac : Act} {Q : Exit → Act → World → Prop} (E : Ge.El α) (hgd : o.guard = none) (s x : Operand) (t : TypeId) (htt : t = E.t)
    (ho : o.op = .call { callee := .builtin .append, args := #[s, x], argTypes := #[t, t] }) (N : Nat) (v : Value) (xs : List α) (y : α) (hbig : xs.length ≤ 1099511627775) {w : World} (W : World) (hs : ac.eval s = v) (hown : Ge.OwnL E N W v xs) (H : Nat)
    (hx : ac.eval x = .slice (some ⟨H, 0, none⟩) 1 1) (hH : w.heap.size = H) (hN : N ≤ W.heap.size) (hW : W = w.alloc (Obj.cells (E.enc y).toArray E.e))
    (h : ∀ v' w', Hid (Ge.OwnL E N w' v' (xs ++ [y])) → Hid (W.grownBy w' v.ownBlock) → Hid (v'.ownBlock = v.ownBlock ∨ v'.ownBlock = some W.heap.size) → wpList Try.prog ops Q rest (ac.put o.dst v') w') :
    wpList Try.prog ops Q (o :: rest) ac W := by
  subst hH
  exact Ge.list_app1 E hgd s x t htt ho N v xs y hbig W hs hown hx hN hW h
/-- what a stir puts -/
def moreP (a n v few : Int) : List (Int × Int × Int) := if 0 ≤ n ∧ n < 32 then [(a, n, v), (a, n + 1, few)] else [(a, n, v)]
theorem one_app {W W0 : World} {b : Nat} (a n v : Int) (hW : W0.alloc (Obj.cells #[.int .u32 a, .int .i64 n, .int .i64 v] 43) = W) (hb : b = W0.heap.size) : Ge.OwnL EM b W (.slice (some ⟨b, 0, none⟩) 1 1) [(a, n, v)] ∧ Below b W0 W := by
  subst hb
  exact Ge.own_made EM (W := W0) [(a, n, v)] 1 rfl (by decide) hW

set_option maxHeartbeats 2000000 in
theorem more_any (kd tr a n v few ad : Int) (w : World) (a0 : 0 ≤ a) (a1 : a < 4294967296) :
    Calls Try.prog 26 #[.agg #[.int .i64 kd, .int .i64 tr, .int .u32 a, .int .i64 n, .int .i64 v, .int .i64 few, .int .u32 ad]] w fun e w' => ∃ b c, e = .returned (.slice b (moreP a n v few).length c) ∧ Arr3 w' b (moreP a n v few) ∧ Below w.heap.size w w' ∧ ∀ k o, b = some ⟨k, o, none⟩ → w.heap.size ≤ k := by
  have HA : Hid (0 ≤ a ∧ a < 4294967296) := ⟨a0, a1⟩
  clear a0 a1
  go_enter Try.func26, Try.ntmps26
  by_cases hn0 : 0 ≤ n
  · by_cases hn1 : n < 32
    · have hm : moreP a n v few = [(a, n, v)] ++ [(a, n + 1, few)] := by unfold moreP; rw [if_pos ⟨hn0, hn1⟩]; rfl
      have HM : Hid (moreP a n v few = [(a, n, v)] ++ [(a, n + 1, few)]) := hm
      have hw0 : wrap64 (n + 1) = n + 1 := IntWalk.wrap64_in _ (by omega)
      rw [hm]
      clear hm
      have HO : Hid (Ge.OwnL EM (w.heap.size + 1) (((w.alloc (Obj.cells #[.int .i64 kd, .int .i64 tr, .int .u32 a, .int .i64 n, .int .i64 v, .int .i64 few, .int .u32 ad] 35)).alloc (Obj.cells #[.int .u32 a, .int .i64 n, .int .i64 v] 43)).alloc (Obj.cells #[.int .u32 a, .int .i64 (n + 1), .int .i64 few] 43)) (.slice (some ⟨w.heap.size + 1, 0, none⟩) 1 1) [(a, n, v)]) := by
        obtain ⟨ho, hb⟩ := one_app (W0 := (w.alloc (Obj.cells #[.int .i64 kd, .int .i64 tr, .int .u32 a, .int .i64 n, .int .i64 v, .int .i64 few, .int .u32 ad] 35))) a n v rfl (b := w.heap.size + 1) (by simp)
        exact ho.bel ((Below.refl _ _).alloc (Nat.le_refl _) _)
      have hB3 : Below w.heap.size w (((w.alloc (Obj.cells #[.int .i64 kd, .int .i64 tr, .int .u32 a, .int .i64 n, .int .i64 v, .int .i64 few, .int .u32 ad] 35)).alloc (Obj.cells #[.int .u32 a, .int .i64 n, .int .i64 v] 43)).alloc (Obj.cells #[.int .u32 a, .int .i64 (n + 1), .int .i64 few] 43)) := (((Below.refl _ w).alloc (Nat.le_refl _) _).alloc (by simp) _).alloc (by simp; omega) _
      have HB3 : Hid (Below _ _ _) := hB3
      clear hB3
      go_wp2_with (refine app_h EM rfl _ _ _ rfl rfl (w.heap.size + 1) (.slice (some ⟨w.heap.size + 1, 0, none⟩) 1 1) [(a, n, v)] (a, n + 1, few) (by simp) _ rfl HO.out (w.heap.size + 1 + 1) rfl (by simp) (by simp) rfl ?_; intro v' w' hov hg hat)
      obtain ⟨a', c', rfl, hc', hn', hf'⟩ := hov.out.form
      go_ret
      exact ⟨a', c', rfl, arr_lst hov.out.lst.1 (fun d hd => by rw [List.mem_append, List.mem_singleton, List.mem_singleton] at hd; rcases hd with rfl | rfl <;> exact HA.out), (HB3.out).grown hg.out (by simp; omega) (fun k e => by cases e; exact Nat.le_succ _), fun k o e => by have := (hf' k o e).2.1; omega⟩
    · have hm : moreP a n v few = [(a, n, v)] := by unfold moreP; rw [if_neg (by omega)]
      rw [hm]
      clear hm
      go_wp2_with fail
      go_ret
      obtain ⟨ho, hb⟩ := one_app (W0 := (w.alloc (Obj.cells #[.int .i64 kd, .int .i64 tr, .int .u32 a, .int .i64 n, .int .i64 v, .int .i64 few, .int .u32 ad] 35))) a n v rfl (b := w.heap.size + 1) (by simp)
      exact ⟨_, ⟨_, rfl⟩, arr_lst ho.lst.1 (fun d hd => by rw [List.mem_singleton] at hd; subst hd; exact HA.out), ((Below.refl _ w).alloc (Nat.le_refl _) _).alloc (by simp) _, fun k o e => by cases e; omega⟩
  · have hm : moreP a n v few = [(a, n, v)] := by unfold moreP; rw [if_neg (by omega)]
    rw [hm]
    clear hm
    go_wp2_with fail
    go_ret
    obtain ⟨ho, hb⟩ := one_app (W0 := (w.alloc (Obj.cells #[.int .i64 kd, .int .i64 tr, .int .u32 a, .int .i64 n, .int .i64 v, .int .i64 few, .int .u32 ad] 35))) a n v rfl (b := w.heap.size + 1) (by simp)
    exact ⟨_, ⟨_, rfl⟩, arr_lst ho.lst.1 (fun d hd => by rw [List.mem_singleton] at hd; subst hd; exact HA.out), ((Below.refl _ w).alloc (Nat.le_refl _) _).alloc (by simp) _, fun k o e => by cases e; omega⟩
end Go.Proofs.Ytibmhdfodmkahaa.Tu
namespace Go.Proofs.Ytibmhdfodmkahaa.Tu
open Go.ChangeShapes Go.WideShapes Go.ChangeAt Go.RowKit Go.Proofs.Ytibmhdfodmkahaa.PM Go.Proofs.Ytibmhdfodmkahaa.TrM Go.Proofs.Ytibmhdfodmkahaa.Ask Go.Proofs.Ytibmhdfodmkahaa.Tri
set_option linter.unusedVariables false

abbrev Bs := Option Addr × Nat × Nat
def EP : Ge.El Nat := ⟨24, 50, 1, 8, .pointer none, fun b => [.pointer (some ⟨b, 0, none⟩)], by decide, by decide, fun _ => rfl, fun x u hu => by simp at hu; subst hu; rfl, Try.underlying50, by kernel_rfl, rfl⟩
def EB : Ge.El Bs := ⟨28, 51, 1, 24, .agg #[.slice none 0 0], fun x => [.slice x.1 x.2.1 x.2.2], by decide, by decide, fun _ => rfl, fun x u hu => by simp at hu; subst hu; rfl, Try.underlying51, by kernel_rfl, rfl⟩
/-- where nodes and books' items may lie -/
def okL (bts : List Nat) (vt vb : Value) (b : Nat) : Prop := b ∉ bts ∧ some b ≠ vt.ownBlock ∧ some b ≠ vb.ownBlock
/-- a book's items -/
structure Bo (ok : Nat → Prop) (W : World) (x : Bs) (l : List (Int × Int × Int)) : Prop where
  len : x.2.1 = l.length
  arr : Arr3 W x.1 l
  ok : 0 < l.length → ∀ b o, x.1 = some ⟨b, o, none⟩ → ok b
theorem arr_keep {W W' : World} {a : Option Addr} {l : List (Int × Int × Int)} (h : Arr3 W a l) (hs : W.heap.size ≤ W'.heap.size) (hk : 0 < l.length → ∀ b o, a = some ⟨b, o, none⟩ → b < W.heap.size → W'.heap[b]? = W.heap[b]?) : Arr3 W' a l :=
  ⟨h.small, fun i hi => by
    obtain ⟨b, o, e, hlt, h0, h1, h2⟩ := h.cells i hi
    have c := fun j : Nat => World.cell?_of_block (a := ⟨b, j, none⟩) (w := W) (hk (by omega) b o e hlt)
    exact ⟨b, o, e, Nat.lt_of_lt_of_le hlt hs, (c _).trans h0, (c _).trans h1, (c _).trans h2⟩, h.u32⟩
theorem Bo.keep {ok ok' : Nat → Prop} {W W' : World} {x : Bs} {l : List (Int × Int × Int)} (h : Bo ok W x l) (hs : W.heap.size ≤ W'.heap.size) (hk : ∀ b, ok b → b < W.heap.size → ok' b ∧ W'.heap[b]? = W.heap[b]?) : Bo ok' W' x l :=
  ⟨h.len, arr_keep h.arr hs (fun h0 b o e hl => (hk b (h.ok h0 b o e) hl).2), fun h0 b o e => by
    obtain ⟨b', o', e', hlt, -⟩ := h.arr.cells 0 h0
    have hok := h.ok h0 b o e
    rw [e] at e'
    cases e'
    exact (hk b hok hlt).1⟩
/-- all of it -/
structure St (N : Nat) (w : World) (K : List (Int × Int)) (ts tb : List Tr) (bts : List Nat) (bks : List Bs) (vt vb : Value) (W : World) : Prop where
  l1 : bts.length = ts.length
  l2 : bks.length = ts.length
  l3 : tb.length = ts.length
  pos : 0 < ts.length
  few : ts.length ≤ 12
  ot : Ge.OwnL EP N W vt bts
  ob : Ge.OwnL EB N W vb bks
  gt : ∀ t ∈ ts, Gd K t
  gb : ∀ t ∈ tb, Gd K t
  ho : ∀ i (h1 : i < bts.length) (h2 : i < ts.length), HoldsN (okL bts vt vb) W bts[i] ts[i]
  bo : ∀ i (h1 : i < bks.length) (h2 : i < tb.length), Bo (okL bts vt vb) W bks[i] (allT tb[i])
  nd : bts.Nodup
  ap : ∀ b ∈ bts, N ≤ b ∧ some b ≠ vt.ownBlock ∧ some b ≠ vb.ownBlock
  ne : ∀ g, vt.ownBlock = some g → vb.ownBlock ≠ some g
  bel : Below N w W
  nsz : N ≤ W.heap.size
section
variable {N : Nat} {w : World} {K : List (Int × Int)} {ts tb : List Tr} {bts : List Nat} {bks : List Bs} {vt vb : Value} {W W' : World}
/-- all stays where its blocks stay -/
theorem St.keep (h : St N w K ts tb bts bks vt vb W) (hs : W.heap.size ≤ W'.heap.size) (hb : Below N W W') (hk : ∀ b, b < W.heap.size → (b ∈ bts ∨ vt.ownBlock = some b ∨ vb.ownBlock = some b ∨ okL bts vt vb b) → W'.heap[b]? = W.heap[b]?) : St N w K ts tb bts bks vt vb W' :=
  { h with
    ot := h.ot.blk (fun g e => hk g (h.ot.row.lt g e).2 (.inr (.inl e)))
    ob := h.ob.blk (fun g e => hk g (h.ob.row.lt g e).2 (.inr (.inr (.inl e))))
    ho := fun i h1 h2 => (h.ho i h1 h2).keep hs (hk _ (h.ho i h1 h2).lt (.inl (List.getElem_mem h1))) (fun b hb hl => ⟨hb, hk b hl (.inr (.inr (.inr hb)))⟩)
    bo := fun i h1 h2 => (h.bo i h1 h2).keep hs (fun b hb hl => ⟨hb, hk b hl (.inr (.inr (.inr hb)))⟩)
    bel := h.bel.trans hb
    nsz := Nat.le_trans h.nsz hs }
theorem St.below (h : St N w K ts tb bts bks vt vb W) (hb : Below W.heap.size W W') : St N w K ts tb bts bks vt vb W' :=
  h.keep hb.size (hb.mono h.nsz) (fun b hl _ => hb.block b hl)
theorem St.lt (h : St N w K ts tb bts bks vt vb W) {b : Nat} (hb : b ∈ bts) : b < W.heap.size := by
  obtain ⟨i, hi, rfl⟩ := List.getElem_of_mem hb
  exact (h.ho i hi (by rw [← h.l1]; exact hi)).lt
theorem St.new (h : St N w K ts tb bts bks vt vb W) : ∀ b, W.heap.size ≤ b → okL bts vt vb b := fun b hb =>
  ⟨fun hm => by have := h.lt hm; omega, fun e => by have := (h.ot.row.lt b e.symm).2; omega, fun e => by have := (h.ob.row.lt b e.symm).2; omega⟩
theorem St.nok (h : St N w K ts tb bts bks vt vb W) {k : Nat} (hk : k < bts.length) : ¬ okL bts vt vb bts[k] := fun e => e.1 (List.getElem_mem hk)
theorem nodup_ne {l : List Nat} (h : l.Nodup) {i j : Nat} (hi : i < l.length) (hj : j < l.length) (hne : i ≠ j) : l[i] ≠ l[j] := fun e => hne ((List.getElem_inj h).1 e)
/-- one trie turns -/
theorem St.turn (h : St N w K ts tb bts bks vt vb W) {k : Nat} (hk : k < bts.length) {T : Tr} (hT : Gd K T) (hx : Tuz.BelX bts[k] W.heap.size W W') (hh : HoldsN (okL bts vt vb) W' bts[k] T) : St N w K (ts.set k T) tb bts bks vt vb W' := by
  have hkt : k < ts.length := by rw [← h.l1]; exact hk
  have hap := h.ap bts[k] (List.getElem_mem hk)
  have hkk : ∀ b, b < W.heap.size → b ≠ bts[k] → W'.heap[b]? = W.heap[b]? := fun b hl hn => hx.block b hl hn
  have hok : ∀ b, okL bts vt vb b → b ≠ bts[k] := fun b hb e => hb.1 (e ▸ List.getElem_mem hk)
  exact
  { l1 := by rw [List.length_set]; exact h.l1
    l2 := by rw [List.length_set]; exact h.l2
    l3 := by rw [List.length_set]; exact h.l3
    pos := by rw [List.length_set]; exact h.pos
    few := by rw [List.length_set]; exact h.few
    ot := h.ot.blk (fun g e => hkk g (h.ot.row.lt g e).2 (fun e2 => hap.2.1 (by rw [← e2]; exact e.symm)))
    ob := h.ob.blk (fun g e => hkk g (h.ob.row.lt g e).2 (fun e2 => hap.2.2 (by rw [← e2]; exact e.symm)))
    gt := fun t ht => by
      rcases List.mem_or_eq_of_mem_set ht with h1 | h1
      · exact h.gt t h1
      · subst h1; exact hT
    gb := h.gb
    ho := fun i h1 h2 => by
      by_cases e : k = i
      · subst e; rw [List.getElem_set_self]; exact hh
      · rw [List.getElem_set_ne e]
        have h3 : i < ts.length := by rw [← h.l1]; exact h1
        exact (h.ho i h1 h3).keep hx.size (hkk _ (h.ho i h1 h3).lt (nodup_ne h.nd h1 hk (fun e2 => e e2.symm))) (fun b hb hl => ⟨hb, hkk b hl (hok b hb)⟩)
    bo := fun i h1 h2 => (h.bo i h1 h2).keep hx.size (fun b hb hl => ⟨hb, hkk b hl (hok b hb)⟩)
    nd := h.nd
    ap := h.ap
    ne := h.ne
    bel := h.bel.trans ⟨hx.os, hx.tape, hx.output, hx.size, fun b hb => hkk b (by have := h.nsz; omega) (by have := hap.1; omega)⟩
    nsz := Nat.le_trans h.nsz hx.size }
/-- one book is written anew -/
theorem St.book {g n cap : Nat} (h : St N w K ts tb bts bks vt (.slice (some ⟨g, 0, none⟩) n cap) W) {k : Nat} (hk : k < bks.length) {T : Tr} (hT : Gd K T) {x : Bs} (hx : Bo (okL bts vt (.slice (some ⟨g, 0, none⟩) n cap)) W x (allT T)) :
    St N w K ts (tb.set k T) bts (bks.set k x) vt (.slice (some ⟨g, 0, none⟩) n cap) (W.setCell ⟨g, k, none⟩ (.slice x.1 x.2.1 x.2.2)) := by
  have hg : (Value.slice (some ⟨g, 0, none⟩) n cap).ownBlock = some g := rfl
  have hkb : ∀ b, b ≠ g → (W.setCell ⟨g, k, none⟩ (.slice x.1 x.2.1 x.2.2)).heap[b]? = W.heap[b]? := fun b hn => Below.heap_setCell _ _ _ _ hn
  have hok : ∀ b, okL bts vt (.slice (some ⟨g, 0, none⟩) n cap) b → b ≠ g := fun b hb e => hb.2.2 (by rw [hg, e])
  have hs : W.heap.size ≤ (W.setCell ⟨g, k, none⟩ (.slice x.1 x.2.1 x.2.2)).heap.size := by simp
  have hset := h.ob.setc (i := k) (j := 0) hk (by decide) (.slice x.1 x.2.1 x.2.2) x rfl
  have hkt : k < tb.length := by rw [h.l3, ← h.l2]; exact hk
  exact
  { l1 := h.l1
    l2 := by rw [List.length_set]; exact h.l2
    l3 := by rw [List.length_set]; exact h.l3
    pos := h.pos
    few := h.few
    ot := h.ot.blk (fun b e => hkb b (fun e2 => by subst e2; exact h.ne b e hg))
    ob := by simpa [EB] using hset
    gt := h.gt
    gb := fun t ht => by
      rcases List.mem_or_eq_of_mem_set ht with h1 | h1
      · exact h.gb t h1
      · subst h1; exact hT
    ho := fun i h1 h2 => (h.ho i h1 h2).keep hs (hkb _ (fun e => (h.ap _ (List.getElem_mem h1)).2.2 (by rw [hg, e]))) (fun b hb hl => ⟨hb, hkb b (hok b hb)⟩)
    bo := fun i h1 h2 => by
      by_cases e : k = i
      · subst e; rw [List.getElem_set_self, List.getElem_set_self]; exact hx.keep hs (fun b hb hl => ⟨hb, hkb b (hok b hb)⟩)
      · rw [List.getElem_set_ne e, List.getElem_set_ne e]
        exact (h.bo i (by rw [List.length_set] at h1; exact h1) (by rw [List.length_set] at h2; exact h2)).keep hs (fun b hb hl => ⟨hb, hkb b (hok b hb)⟩)
    nd := h.nd
    ap := h.ap
    ne := h.ne
    bel := h.bel.setCell (p := ⟨g, k, none⟩) (h.ob.row.lt g hg).1 _
    nsz := Nat.le_trans h.nsz hs }
theorem St.more (h : St N w K ts tb bts bks vt vb W) (L : List (Int × Int)) : St N w (K ++ L) ts tb bts bks vt vb W := { h with gt := fun t ht => (h.gt t ht).more L, gb := fun t ht => (h.gb t ht).more L }
end
end Go.Proofs.Ytibmhdfodmkahaa.Tu
namespace Go.Proofs.Ytibmhdfodmkahaa.Tu
open Go.ChangeShapes Go.WideShapes Go.ChangeAt Go.RowKit Go.Joins Go.Proofs.Ytibmhdfodmkahaa.PM Go.Proofs.Ytibmhdfodmkahaa.TrM Go.Proofs.Ytibmhdfodmkahaa.Ask Go.Proofs.Ytibmhdfodmkahaa.Tri
set_option linter.unusedVariables false

/-- one step -/
structure Sp where
  kind : Int
  tr : Int
  a : Int
  n : Int
  v : Int
  few : Int
  ad : Int
structure SpOk (s : Sp) : Prop where
  a : In32 s.a
  ad : In32 s.ad
  tr : -9223372036854775808 ≤ s.tr ∧ s.tr < 9223372036854775808
def spL (s : Sp) : List Value := [.int .i64 s.kind, .int .i64 s.tr, .int .u32 s.a, .int .i64 s.n, .int .i64 s.v, .int .i64 s.few, .int .u32 s.ad]
def ES : Ge.El Sp := ⟨35, 22, 7, 56, .agg #[.int .i64 0, .int .i64 0, .int .u32 0, .int .i64 0, .int .i64 0, .int .i64 0, .int .u32 0], spL, by decide, by decide, fun _ => rfl, fun x u hu => by simp [spL] at hu; rcases hu with rfl | rfl | rfl | rfl | rfl | rfl | rfl <;> rfl, Try.underlying22, by kernel_rfl, rfl⟩
def keys (ss : List Sp) : List (Int × Int) := ss.flatMap fun s => [(s.a, s.n), (s.a, s.n + 1)]
theorem keys_snoc {ss : List Sp} {k : Nat} (h : k < ss.length) : keys (ss.take (k + 1)) = keys (ss.take k) ++ [(ss[k].a, ss[k].n), (ss[k].a, ss[k].n + 1)] := by
  unfold keys; rw [List.take_succ_eq_append_getElem h, List.flatMap_append]; simp
theorem keys_len : ∀ (ss : List Sp), (keys ss).length = 2 * ss.length
  | [] => rfl
  | s :: ss => by
    have := keys_len ss
    unfold keys at this ⊢
    rw [List.flatMap_cons, List.length_append, this, List.length_cons]; simp; omega
/-- the law's own state behind k steps -/
def LI (w : World) (ss : List Sp) (k : Nat) (vt vb : Value) (W : World) : Prop := ∃ ts bts bks, St w.heap.size w (keys (ss.take k)) ts ts bts bks vt vb W
theorem own_alloc1 {α : Type} (E : Ge.El α) {W W' : World} {x : α} (h : W.alloc (Obj.cells (E.enc x).toArray E.e) = W') : Ge.OwnL E W.heap.size W' (.slice (some ⟨W.heap.size, 0, none⟩) 1 1) [x] ∧ Below W.heap.size W W' :=
  Ge.own_made E [x] 1 rfl (by decide) (by simpa [Ge.El.cs] using h)
theorem LI.start {w w1 : World} (ss : List Sp) (hb : Below w.heap.size w w1) (hs : w1.heap.size = w.heap.size + 1) (hh : ∀ ok, Holds ok w1 w.heap.size .nil none 0) :
    LI w ss 0 (.slice (some ⟨w1.heap.size, 0, none⟩) 1 1) (.slice (some ⟨w1.heap.size + 1, 0, none⟩) 1 1) ((w1.alloc (Obj.cells #[.pointer (some ⟨w.heap.size, 0, none⟩)] 24)).alloc (Obj.cells #[.slice none 0 0] 28)) := by
  obtain ⟨h1, b1⟩ := own_alloc1 EP (W := w1) (x := w.heap.size) rfl
  obtain ⟨h2, b2⟩ := own_alloc1 EB (W := w1.alloc (Obj.cells (EP.enc w.heap.size).toArray EP.e)) (x := (none, 0, 0)) rfl
  have hsz : (w1.alloc (Obj.cells (EP.enc w.heap.size).toArray EP.e)).heap.size = w1.heap.size + 1 := by simp
  have hb12 : Below w1.heap.size w1 ((w1.alloc (Obj.cells (EP.enc w.heap.size).toArray EP.e)).alloc (Obj.cells (EB.enc (none, 0, 0)).toArray EB.e)) := b1.trans (b2.mono (by omega))
  rw [hsz] at h2
  refine ⟨[.nil], [w.heap.size], [(none, 0, 0)], ?_⟩
  exact
  { l1 := rfl
    l2 := rfl
    l3 := rfl
    pos := by decide
    few := by decide
    ot := (h1.bel b2).mono (by omega)
    ob := h2.mono (by omega)
    gt := fun t ht => by rw [List.mem_singleton] at ht; subst ht; exact Gd.nil _
    gb := fun t ht => by rw [List.mem_singleton] at ht; subst ht; exact Gd.nil _
    ho := fun i i1 i2 => by
      obtain rfl : i = 0 := by simpa using i1
      exact ⟨none, (hh _).bel hb12⟩
    bo := fun i i1 i2 => by
      obtain rfl : i = 0 := by simpa using i1
      exact ⟨rfl, ⟨by simp [allT], fun j hj => absurd hj (by simp [allT]), fun d hd => by simp [allT] at hd⟩, fun h0 => absurd h0 (by simp [allT])⟩
    nd := by simp
    ap := fun b hb => by
      rw [List.mem_singleton] at hb; subst hb
      exact ⟨Nat.le_refl _, by simp [Value.ownBlock]; omega, by simp [Value.ownBlock]; omega⟩
    ne := fun g e => by simp [Value.ownBlock] at e ⊢; omega
    bel := hb.trans (hb12.mono (by omega))
    nsz := Nat.le_trans (by omega) hb12.size }

/-! the frame of triePlay's loop: all slots but five are whatever they are -/
set_option maxRecDepth 1000000 in
def fr (U : Nat → Value) (va : Option Addr) (L cap : Nat) (vt vb iv : Value) : Array Value := #[U 0, U 1, U 2, vt, vb, U 5, U 6, U 7, U 8, U 9, U 10, U 11, U 12, U 13, U 14, U 15, U 16, U 17, U 18, U 19, U 20, U 21, U 22, U 23, U 24, U 25, U 26, U 27, U 28, U 29, U 30, U 31, U 32, U 33, U 34, U 35, U 36, U 37, U 38, U 39, U 40, U 41, U 42, U 43, U 44, .slice va L cap, .int .i64 (L : Int), iv, U 48, U 49, U 50, U 51, U 52, U 53, U 54, U 55, U 56, U 57, U 58, U 59, U 60, U 61, U 62, U 63, U 64, U 65, U 66, U 67, U 68, U 69, U 70, U 71, U 72, U 73, U 74, U 75, U 76, U 77, U 78, U 79, U 80, U 81, U 82, U 83, U 84, U 85, U 86, U 87, U 88, U 89, U 90, U 91, U 92, U 93, U 94, U 95, U 96, U 97, U 98, U 99, U 100, U 101, U 102, U 103, U 104, U 105, U 106, U 107, U 108, U 109, U 110, U 111, U 112, U 113, U 114, U 115, U 116, U 117, U 118, U 119, U 120, U 121, U 122, U 123, U 124, U 125, U 126, U 127, U 128, U 129, U 130, U 131, U 132, U 133, U 134, U 135, U 136, U 137, U 138, U 139, U 140, U 141, U 142, U 143, U 144, U 145, U 146, U 147, U 148, U 149, U 150, U 151, U 152, U 153, U 154, U 155, U 156, U 157, U 158, U 159, U 160, U 161, U 162, U 163, U 164, U 165, U 166, U 167, U 168, U 169, U 170, U 171, U 172, U 173, U 174, U 175, U 176, U 177, U 178, U 179, U 180, U 181, U 182, U 183, U 184, U 185, U 186, U 187, U 188, U 189, U 190, U 191, U 192, U 193, U 194, U 195, U 196, U 197, U 198, U 199, U 200, U 201, U 202, U 203, U 204, U 205, U 206, U 207, U 208, U 209, U 210, U 211, U 212, U 213, U 214, U 215, U 216, U 217, U 218, U 219, U 220, U 221, U 222, U 223, U 224, U 225, U 226, U 227, U 228, U 229, U 230, U 231, U 232, U 233, U 234, U 235, U 236, U 237, U 238, U 239, U 240, U 241, U 242, U 243, U 244, U 245, U 246, U 247, U 248, U 249, U 250, U 251, U 252, U 253, U 254, U 255, U 256, U 257, U 258, U 259, U 260, U 261, U 262, U 263, U 264, U 265, U 266, U 267, U 268, U 269, U 270, U 271, U 272, U 273, U 274, U 275, U 276, U 277, U 278, U 279, U 280, U 281, U 282, U 283, U 284, U 285, U 286, U 287, U 288, U 289, U 290, U 291, U 292, U 293, U 294, U 295, U 296, U 297, U 298, U 299, U 300, U 301, U 302, U 303, U 304, U 305, U 306, U 307, U 308, U 309, U 310, U 311, U 312, U 313, U 314, U 315, U 316, U 317, U 318, U 319, U 320, U 321, U 322, U 323, U 324, U 325, U 326, U 327, U 328, U 329, U 330, U 331, U 332, U 333, U 334, U 335, U 336, U 337, U 338, U 339, U 340, U 341]
def WI (w : World) (ss : List Sp) (va : Option Addr) (L cap : Nat) (a : Act) (W : World) : Prop := ∃ (U : Nat → Value) (vt vb : Value) (k : Nat), k ≤ L ∧ LI w ss k vt vb W ∧ a = ⟨fr U va L cap vt vb (.int .i64 (k : Int)), []⟩
def WX (w : World) (ss : List Sp) (va : Option Addr) (L cap : Nat) (a : Act) (W : World) : Prop := ∃ (U : Nat → Value) (vt vb iv : Value), LI w ss L vt vb W ∧ a = ⟨fr U va L cap vt vb iv, []⟩
/-- the only way out of the loop -/
def QX (w : World) (ss : List Sp) (va : Option Addr) (L cap : Nat) : Exit → Act → World → Prop
  | .exit 0, a, W => WX w ss va L cap a W
  | _, _, _ => False
def Wmu (L : Nat) (a : Act) (_ : World) : Nat := L - (intOf (a.tmps.getD 47 undef)).toNat
set_option maxRecDepth 1000000 in
set_option maxHeartbeats 16000000 in
theorem fr_mk {va : Option Addr} {L cap : Nat} {vt vb iv : Value} {u0 u1 u2 u5 u6 u7 u8 u9 u10 u11 u12 u13 u14 u15 u16 u17 u18 u19 u20 u21 u22 u23 u24 u25 u26 u27 u28 u29 u30 u31 u32 u33 u34 u35 u36 u37 u38 u39 u40 u41 u42 u43 u44 u48 u49 u50 u51 u52 u53 u54 u55 u56 u57 u58 u59 u60 u61 u62 u63 u64 u65 u66 u67 u68 u69 u70 u71 u72 u73 u74 u75 u76 u77 u78 u79 u80 u81 u82 u83 u84 u85 u86 u87 u88 u89 u90 u91 u92 u93 u94 u95 u96 u97 u98 u99 u100 u101 u102 u103 u104 u105 u106 u107 u108 u109 u110 u111 u112 u113 u114 u115 u116 u117 u118 u119 u120 u121 u122 u123 u124 u125 u126 u127 u128 u129 u130 u131 u132 u133 u134 u135 u136 u137 u138 u139 u140 u141 u142 u143 u144 u145 u146 u147 u148 u149 u150 u151 u152 u153 u154 u155 u156 u157 u158 u159 u160 u161 u162 u163 u164 u165 u166 u167 u168 u169 u170 u171 u172 u173 u174 u175 u176 u177 u178 u179 u180 u181 u182 u183 u184 u185 u186 u187 u188 u189 u190 u191 u192 u193 u194 u195 u196 u197 u198 u199 u200 u201 u202 u203 u204 u205 u206 u207 u208 u209 u210 u211 u212 u213 u214 u215 u216 u217 u218 u219 u220 u221 u222 u223 u224 u225 u226 u227 u228 u229 u230 u231 u232 u233 u234 u235 u236 u237 u238 u239 u240 u241 u242 u243 u244 u245 u246 u247 u248 u249 u250 u251 u252 u253 u254 u255 u256 u257 u258 u259 u260 u261 u262 u263 u264 u265 u266 u267 u268 u269 u270 u271 u272 u273 u274 u275 u276 u277 u278 u279 u280 u281 u282 u283 u284 u285 u286 u287 u288 u289 u290 u291 u292 u293 u294 u295 u296 u297 u298 u299 u300 u301 u302 u303 u304 u305 u306 u307 u308 u309 u310 u311 u312 u313 u314 u315 u316 u317 u318 u319 u320 u321 u322 u323 u324 u325 u326 u327 u328 u329 u330 u331 u332 u333 u334 u335 u336 u337 u338 u339 u340 u341 : Value} : ∃ U, (⟨#[u0, u1, u2, vt, vb, u5, u6, u7, u8, u9, u10, u11, u12, u13, u14, u15, u16, u17, u18, u19, u20, u21, u22, u23, u24, u25, u26, u27, u28, u29, u30, u31, u32, u33, u34, u35, u36, u37, u38, u39, u40, u41, u42, u43, u44, .slice va L cap, .int .i64 (L : Int), iv, u48, u49, u50, u51, u52, u53, u54, u55, u56, u57, u58, u59, u60, u61, u62, u63, u64, u65, u66, u67, u68, u69, u70, u71, u72, u73, u74, u75, u76, u77, u78, u79, u80, u81, u82, u83, u84, u85, u86, u87, u88, u89, u90, u91, u92, u93, u94, u95, u96, u97, u98, u99, u100, u101, u102, u103, u104, u105, u106, u107, u108, u109, u110, u111, u112, u113, u114, u115, u116, u117, u118, u119, u120, u121, u122, u123, u124, u125, u126, u127, u128, u129, u130, u131, u132, u133, u134, u135, u136, u137, u138, u139, u140, u141, u142, u143, u144, u145, u146, u147, u148, u149, u150, u151, u152, u153, u154, u155, u156, u157, u158, u159, u160, u161, u162, u163, u164, u165, u166, u167, u168, u169, u170, u171, u172, u173, u174, u175, u176, u177, u178, u179, u180, u181, u182, u183, u184, u185, u186, u187, u188, u189, u190, u191, u192, u193, u194, u195, u196, u197, u198, u199, u200, u201, u202, u203, u204, u205, u206, u207, u208, u209, u210, u211, u212, u213, u214, u215, u216, u217, u218, u219, u220, u221, u222, u223, u224, u225, u226, u227, u228, u229, u230, u231, u232, u233, u234, u235, u236, u237, u238, u239, u240, u241, u242, u243, u244, u245, u246, u247, u248, u249, u250, u251, u252, u253, u254, u255, u256, u257, u258, u259, u260, u261, u262, u263, u264, u265, u266, u267, u268, u269, u270, u271, u272, u273, u274, u275, u276, u277, u278, u279, u280, u281, u282, u283, u284, u285, u286, u287, u288, u289, u290, u291, u292, u293, u294, u295, u296, u297, u298, u299, u300, u301, u302, u303, u304, u305, u306, u307, u308, u309, u310, u311, u312, u313, u314, u315, u316, u317, u318, u319, u320, u321, u322, u323, u324, u325, u326, u327, u328, u329, u330, u331, u332, u333, u334, u335, u336, u337, u338, u339, u340, u341], []⟩ : Act) = ⟨fr U va L cap vt vb iv, []⟩ :=
  ⟨fun i => [u0, u1, u2, undef, undef, u5, u6, u7, u8, u9, u10, u11, u12, u13, u14, u15, u16, u17, u18, u19, u20, u21, u22, u23, u24, u25, u26, u27, u28, u29, u30, u31, u32, u33, u34, u35, u36, u37, u38, u39, u40, u41, u42, u43, u44, undef, undef, undef, u48, u49, u50, u51, u52, u53, u54, u55, u56, u57, u58, u59, u60, u61, u62, u63, u64, u65, u66, u67, u68, u69, u70, u71, u72, u73, u74, u75, u76, u77, u78, u79, u80, u81, u82, u83, u84, u85, u86, u87, u88, u89, u90, u91, u92, u93, u94, u95, u96, u97, u98, u99, u100, u101, u102, u103, u104, u105, u106, u107, u108, u109, u110, u111, u112, u113, u114, u115, u116, u117, u118, u119, u120, u121, u122, u123, u124, u125, u126, u127, u128, u129, u130, u131, u132, u133, u134, u135, u136, u137, u138, u139, u140, u141, u142, u143, u144, u145, u146, u147, u148, u149, u150, u151, u152, u153, u154, u155, u156, u157, u158, u159, u160, u161, u162, u163, u164, u165, u166, u167, u168, u169, u170, u171, u172, u173, u174, u175, u176, u177, u178, u179, u180, u181, u182, u183, u184, u185, u186, u187, u188, u189, u190, u191, u192, u193, u194, u195, u196, u197, u198, u199, u200, u201, u202, u203, u204, u205, u206, u207, u208, u209, u210, u211, u212, u213, u214, u215, u216, u217, u218, u219, u220, u221, u222, u223, u224, u225, u226, u227, u228, u229, u230, u231, u232, u233, u234, u235, u236, u237, u238, u239, u240, u241, u242, u243, u244, u245, u246, u247, u248, u249, u250, u251, u252, u253, u254, u255, u256, u257, u258, u259, u260, u261, u262, u263, u264, u265, u266, u267, u268, u269, u270, u271, u272, u273, u274, u275, u276, u277, u278, u279, u280, u281, u282, u283, u284, u285, u286, u287, u288, u289, u290, u291, u292, u293, u294, u295, u296, u297, u298, u299, u300, u301, u302, u303, u304, u305, u306, u307, u308, u309, u310, u311, u312, u313, u314, u315, u316, u317, u318, u319, u320, u321, u322, u323, u324, u325, u326, u327, u328, u329, u330, u331, u332, u333, u334, u335, u336, u337, u338, u339, u340, u341].getD i undef, rfl⟩
theorem Wmu_fr {U : Nat → Value} {va : Option Addr} {L cap : Nat} {vt vb : Value} {k : Nat} {W : World} : Wmu L ⟨fr U va L cap vt vb (.int .i64 (k : Int)), []⟩ W = L - k := by
  show L - (intOf (.int .i64 (k : Int))).toNat = L - k
  simp [intOf]
/-- the end of a round -/
theorem wi_end {w : World} {ss : List Sp} {va : Option Addr} {L cap k k' : Nat} {vt vb : Value} {a : Act} {W : World} (ha : ∃ U, a = ⟨fr U va L cap vt vb (.int .i64 (k' : Int)), []⟩) (hk : k < k') (hk' : k' ≤ L) (h : LI w ss k' vt vb W) :
    WI w ss va L cap a W ∧ Wmu L a W < L - k := by
  obtain ⟨U, rfl⟩ := ha
  exact ⟨⟨U, vt, vb, k', hk', h, rfl⟩, by rw [Wmu_fr]; omega⟩
def firstLoop : Code → Option Code
  | .loop c => some c
  | .seq a b => match firstLoop a with
    | some c => some c
    | none => firstLoop b
  | .block _ c => firstLoop c
  | .scope c => firstLoop c
  | .cond _ a b => match firstLoop a with
    | some c => some c
    | none => firstLoop b
  | _ => none
/-- the body of triePlay's loop -/
noncomputable def body : Code := ((Try.f6.body.bind firstLoop).getD .skip)
end Go.Proofs.Ytibmhdfodmkahaa.Tu
namespace Go.Proofs.Ytibmhdfodmkahaa.Ge
open Go.ChangeShapes Go.WideShapes Go.ChangeAt Go.RowKit Go.Joins Go.Deep
set_option linter.unusedVariables false

/-- a kind of struct -/
structure Sk where
  t : TypeId
  k : Nat
  d : TypeDesc
  hu : Try.prog.underlying t = some d
  hd : d.isRow = true
  hi : (Try.prog.info? t).map (·.size) = some k
/-- a block that holds one -/
def SB (T : Sk) (b : Nat) (cs : List Value) (w : World) : Prop := w.heap[b]? = some (Obj.cells cs.toArray T.t)
/-- nothing but one block has turned -/
structure Ko (w : World) (b : Nat) (w' : World) : Prop where
  str : Below 0 w w'
  size : w'.heap.size = w.heap.size
  block : ∀ g, g ≠ b → w'.heap[g]? = w.heap[g]?
theorem Ko.refl (w : World) (b : Nat) : Ko w b w := ⟨Below.refl _ _, rfl, fun _ _ => rfl⟩
theorem Ko.trans {w w1 w2 : World} {b : Nat} (h : Ko w b w1) (k : Ko w1 b w2) : Ko w b w2 := ⟨h.str.trans k.str, k.size.trans h.size, fun g hg => (k.block g hg).trans (h.block g hg)⟩
theorem Ko.below {w w1 : World} {b N : Nat} (h : Ko w b w1) (hN : N ≤ b) : Below N w w1 := ⟨h.str.os, h.str.tape, h.str.output, h.str.size, fun k hk => h.block k (by omega)⟩
theorem SB.lt {T : Sk} {b : Nat} {cs : List Value} {w : World} (h : SB T b cs w) : b < w.heap.size := (Array.getElem?_eq_some_iff.1 h).1
theorem SB.cell {T : Sk} {b : Nat} {cs : List Value} {w : World} (h : SB T b cs w) (i : Nat) : w.cell? ⟨b, i, none⟩ = cs[i]? := by unfold World.cell?; rw [h]; simp
theorem SB.fro {T : Sk} {b : Nat} {cs : List Value} {w : World} (h : SB T b cs w) (i : Nat) : w.frozen? ⟨b, i, none⟩ = false := by unfold World.frozen?; rw [h]; simp
theorem SB.blk {T : Sk} {b : Nat} {cs : List Value} {w w' : World} (h : SB T b cs w) (hb : w'.heap[b]? = w.heap[b]?) : SB T b cs w' := hb.trans h
theorem SB.set {T : Sk} {b : Nat} {cs cs' : List Value} {w : World} (h : SB T b cs w) (i : Nat) (v : Value) (he : cs.set i v = cs') : SB T b cs' (w.setCell ⟨b, i, none⟩ v) := by
  unfold SB
  rw [heap_setCell_same w b i _ _ v h, ← he]
  simp
theorem Ko.set (w : World) (b i : Nat) (v : Value) : Ko w b (w.setCell ⟨b, i, none⟩ v) := ⟨(Below.refl _ w).setCell (p := ⟨b, i, none⟩) (Nat.zero_le _) v, by simp, fun g hg => Below.heap_setCell w ⟨b, i, none⟩ _ g hg⟩
theorem SB.made (T : Sk) {w W : World} {cs : List Value} (h : w.alloc (Obj.cells cs.toArray T.t) = W) : SB T w.heap.size cs W ∧ Below w.heap.size w W := by
  subst h
  exact ⟨World.alloc_heap_new w _, (Below.refl _ _).alloc (Nat.le_refl _) _⟩
theorem heap_setRow (w : World) (g : Nat) (old cs : Array Value) (t : TypeId) (h : w.heap[g]? = some (Obj.cells old t)) : (w.setRow g cs).heap[g]? = some (Obj.cells cs t) := by
  obtain ⟨hl, e⟩ := Array.getElem?_eq_some_iff.1 h
  simp [World.setRow, hl, Array.getElem_modify, e]
theorem Ko.row (w : World) (g : Nat) (cs : Array Value) : Ko w g (w.setRow g cs) :=
  ⟨below_setRow (Below.refl _ w) (Nat.zero_le _) cs, by simp [World.setRow], fun k hk => setRow_other w g k cs hk⟩
theorem sload_run {o : Oper} {ρ : Operand → Value} {W : World} (T : Sk) (x : Operand) (ho : o.op = .load T.t x) {b : Nat} {cs : List Value} (hx : ρ x = .pointer (some ⟨b, 0, none⟩)) (h : SB T b cs W) (hl : cs.length = T.k) : (execOp ρ o).run Try.prog W = .ok (.value (.agg cs.toArray)) W := by
  unfold execOp
  have hr : W.rangeAt b 0 cs := fun j v hv => by rw [Nat.zero_add, h.cell]; exact hv
  simp only [ho, hx, Instr.loadAt, Instr.sureAddr, Sem.run_bind, Sem.run_pure, Result.andThen_ok, run_loadVar_mid W b 0 T.t cs T.d hr T.hu T.hd (by rw [T.hi, hl])]
/-- a struct is loaded -/
theorem list_sload {ops : Array Oper} {rest : List Oper} {o : Oper} {ac : Act} {Q : Exit → Act → World → Prop} {W : World} (T : Sk) (hgd : o.guard = none) (x : Operand) (ho : o.op = .load T.t x) {b : Nat} {cs : List Value} (hx : ac.eval x = .pointer (some ⟨b, 0, none⟩)) (h : SB T b cs W) (hl : cs.length = T.k)
    (k : wpList Try.prog ops Q rest (ac.put o.dst (.agg cs.toArray)) W) : wpList Try.prog ops Q (o :: rest) ac W := by
  refine wpList_plain hgd fun K hK => ?_
  unfold Oper.wp
  rw [sload_run T x ho hx h hl]
  exact hK _ _ k
theorem sstore_run {o : Oper} {ρ : Operand → Value} {W : World} (T : Sk) (x y : Operand) (ho : o.op = .store T.t x y) {b : Nat} {cs cs' : List Value} (hx : ρ x = .pointer (some ⟨b, 0, none⟩)) (hy : ρ y = .agg cs'.toArray) (h : SB T b cs W) (hl : cs.length = T.k) (hl' : cs'.length = T.k) (h1 : cs'.all (·.oneCell') = true) : (execOp ρ o).run Try.prog W = .ok .skip (W.setRow b cs'.toArray) := by
  unfold execOp
  have ha : cs'.toArray.all (·.oneCell') = true := by simpa using h1
  simp only [ho, hx, hy, Instr.storeAt, Instr.sureAddr, Sem.run_bind, Sem.run_pure, Result.andThen_ok, run_storeVar_row W b T.t T.t cs.toArray cs'.toArray h (by rw [T.hi]; simp [hl']) (by simp [hl, hl']) ha]
/-- a struct is stored -/
theorem list_sstore {ops : Array Oper} {rest : List Oper} {o : Oper} {ac : Act} {Q : Exit → Act → World → Prop} {W : World} (T : Sk) (hgd : o.guard = none) (x y : Operand) (ho : o.op = .store T.t x y) {b : Nat} {cs cs' : List Value} (hx : ac.eval x = .pointer (some ⟨b, 0, none⟩)) (hy : ac.eval y = .agg cs'.toArray) (h : SB T b cs W) (hl : cs.length = T.k) (hl' : cs'.length = T.k) (h1 : cs'.all (·.oneCell') = true)
    (k : ∀ W', Hid (SB T b cs' W') → Hid (Ko W b W') → wpList Try.prog ops Q rest (ac.put o.dst undef) W') : wpList Try.prog ops Q (o :: rest) ac W := by
  refine wpList_plain hgd fun K hK => ?_
  unfold Oper.wp
  rw [sstore_run T x y ho hx hy h hl hl' h1]
  exact hK _ _ (k _ (heap_setRow W b _ _ _ h) (Ko.row W b _))
theorem sbox_run {o : Oper} {ρ : Operand → Value} {W : World} (T : Sk) (x : Operand) (ho : o.op = .box T.t x) {cs : List Value} (hx : ρ x = .agg cs.toArray) : (execOp ρ o).run Try.prog W = .ok (.value (.pointer (some ⟨W.heap.size, 0, none⟩))) (W.alloc (Obj.cells cs.toArray T.t)) := by
  unfold execOp
  rw [ho]
  simp [go_sem, hx]
/-- a struct is boxed -/
theorem list_sbox {ops : Array Oper} {rest : List Oper} {o : Oper} {ac : Act} {Q : Exit → Act → World → Prop} {W : World} (T : Sk) (hgd : o.guard = none) (x : Operand) (ho : o.op = .box T.t x) {cs : List Value} (hx : ac.eval x = .agg cs.toArray)
    (k : ∀ W', Hid (SB T W.heap.size cs W') → Hid (Below W.heap.size W W') → W'.heap.size = W.heap.size + 1 → wpList Try.prog ops Q rest (ac.put o.dst (.pointer (some ⟨W.heap.size, 0, none⟩))) W') : wpList Try.prog ops Q (o :: rest) ac W := by
  refine wpList_plain hgd fun K hK => ?_
  unfold Oper.wp
  rw [sbox_run T x ho hx]
  exact hK _ _ (k _ (World.alloc_heap_new W _) ((Below.refl _ W).alloc (Nat.le_refl _) _) (by simp))
/-- one operation of a region that draws -/
theorem step_run {P : Program} {o : Oper} {a : Act} {w w' : World} {K : Act → World → Prop} {Q : Exit → Act → World → Prop} {v : Value} {c : Bool} {E : Prop} (hc : c = true) (h : (execOp a.eval o).run P w = .ok (.value v) w') (hk : K (a.put o.dst v) w') : if c = true then Oper.wp P o a w K Q else E := by
  rw [if_pos hc]; unfold Oper.wp; rw [h]; exact hk
theorem step_runs {P : Program} {o : Oper} {a : Act} {w w' : World} {K : Act → World → Prop} {Q : Exit → Act → World → Prop} {c : Bool} {E : Prop} (hc : c = true) (h : (execOp a.eval o).run P w = .ok .skip w') (hk : K (a.put o.dst undef) w') : if c = true then Oper.wp P o a w K Q else E := by
  rw [if_pos hc]; unfold Oper.wp; rw [h]; exact hk
theorem sstore_step {o : Oper} {a : Act} {W : World} {K : Act → World → Prop} {Q : Exit → Act → World → Prop} {c : Bool} {E : Prop} (T : Sk) (x y : Operand) (ho : o.op = .store T.t x y) {b : Nat} {cs cs' : List Value} (hx : a.eval x = .pointer (some ⟨b, 0, none⟩)) (hy : a.eval y = .agg cs'.toArray) (h : SB T b cs W) (hl : cs.length = T.k) (hl' : cs'.length = T.k) (h1 : cs'.all (·.oneCell') = true) (hc : c = true)
    (k : ∀ W', Hid (SB T b cs' W') → Hid (Ko W b W') → K (a.put o.dst undef) W') : if c = true then Oper.wp Try.prog o a W K Q else E :=
  step_runs hc (sstore_run T x y ho hx hy h hl hl' h1) (k _ (heap_setRow W b _ _ _ h) (Ko.row W b _))
end Go.Proofs.Ytibmhdfodmkahaa.Ge
namespace Go.Proofs.Ytibmhdfodmkahaa.Tu
open Go.ChangeShapes Go.WideShapes Go.ChangeAt Go.RowKit Go.Joins Go.Proofs.Ytibmhdfodmkahaa.PM Go.Proofs.Ytibmhdfodmkahaa.TrM Go.Proofs.Ytibmhdfodmkahaa.Ask Go.Proofs.Ytibmhdfodmkahaa.Tri
set_option linter.unusedVariables false

/-- the step's box -/
structure Bx7 (b : Nat) (s : Sp) (W : World) : Prop where
  k : W.cell? ⟨b, 0, none⟩ = some (.int .i64 s.kind)
  a : W.cell? ⟨b, 2, none⟩ = some (.int .u32 s.a)
  n : W.cell? ⟨b, 3, none⟩ = some (.int .i64 s.n)
  v : W.cell? ⟨b, 4, none⟩ = some (.int .i64 s.v)
  f : W.cell? ⟨b, 5, none⟩ = some (.int .i64 s.few)
  d : W.cell? ⟨b, 6, none⟩ = some (.int .u32 s.ad)
  lt : b < W.heap.size
theorem Bx7.below {b : Nat} {s : Sp} {W W' : World} (h : Bx7 b s W) (hb : Below W.heap.size W W') : Bx7 b s W' :=
  ⟨cell_bel h.k hb, cell_bel h.a hb, cell_bel h.n hb, cell_bel h.v hb, cell_bel h.f hb, cell_bel h.d hb, Nat.lt_of_lt_of_le h.lt hb.size⟩
/-- the end of a round that changes nothing -/
theorem LI.next {w : World} {ss : List Sp} {k : Nat} {ts : List Tr} {bts : List Nat} {bks : List Bs} {vt vb : Value} {W : World} (hk : k < ss.length) (h : St w.heap.size w (keys (ss.take (k + 1))) ts ts bts bks vt vb W) : LI w ss (k + 1) vt vb W := ⟨ts, bts, bks, h⟩
theorem St.keys {w : World} {ss : List Sp} {k : Nat} {ts tb : List Tr} {bts : List Nat} {bks : List Bs} {vt vb : Value} {W : World} (hk : k < ss.length) (h : St w.heap.size w (keys (ss.take k)) ts tb bts bks vt vb W) : St w.heap.size w (Tu.keys (ss.take (k + 1))) ts tb bts bks vt vb W := by
  rw [keys_snoc hk]; exact h.more _
theorem keys_le {ss : List Sp} {k L : Nat} (hk : k ≤ L) (hb : L ≤ 1048576) : (keys (ss.take k)).length ≤ 1099511627776 := by
  rw [keys_len, List.length_take]; omega
def TbK : Ge.Sk := ⟨28, 1, _, Try.underlying28, rfl, by kernel_rfl⟩
theorem arr_sb {W W' : World} {a : Option Addr} {l : List (Int × Int × Int)} {m : Nat} {x : Option Addr} {y z : Nat} (h : Bk.Arr3 W a l) (hs : Ge.SB TbK m [.slice x y z] W) (hk : Ge.Ko W m W') : Bk.Arr3 W' a l :=
  ⟨h.small, fun i hi => by
    obtain ⟨b, o, e, hlt, h0, h1, h2⟩ := h.cells i hi
    have hne : b ≠ m := by
      intro e2
      subst e2
      have hs' : W.heap[b]? = some (Obj.cells #[.slice x y z] TbK.t) := hs
      unfold World.cell? at h0
      rw [hs'] at h0
      cases hj : o + i * 3 with
      | zero => rw [hj] at h0; simp at h0
      | succ j => rw [hj] at h0; simp at h0
    have c := fun j : Nat => World.cell?_of_block (a := ⟨b, j, none⟩) (w := W) (hk.block b hne)
    exact ⟨b, o, e, by rw [hk.size]; exact hlt, (c _).trans h0, (c _).trans h1, (c _).trans h2⟩, h.u32⟩
theorem balloc_run {o : Oper} {ρ : Operand → Value} {W : World} (ho : o.op = .alloc 28) : (execOp ρ o).run Try.prog W = .ok (.value (.pointer (some ⟨W.heap.size, 0, none⟩))) (W.alloc (Obj.cells #[.slice none 0 0] 28)) := by
  unfold execOp
  rw [ho]
  simp [go_sem]
theorem balloc_step {o : Oper} {a : Act} {W : World} {K : Act → World → Prop} {Q : Exit → Act → World → Prop} {c : Bool} {E : Prop} (ho : o.op = .alloc 28) (hc : c = true)
    (k : ∀ m W', Hid (W.heap.size = m) → Hid (Ge.SB TbK m [.slice none 0 0] W') → Hid (Below W.heap.size W W') → K (a.put o.dst (.pointer (some ⟨m, 0, none⟩))) W') : if c = true then Oper.wp Try.prog o a W K Q else E :=
  Ge.step_run hc (balloc_run ho) (k _ _ rfl (World.alloc_heap_new W _) ((Below.refl _ W).alloc (Nat.le_refl _) _))
end Go.Proofs.Ytibmhdfodmkahaa.Tu
