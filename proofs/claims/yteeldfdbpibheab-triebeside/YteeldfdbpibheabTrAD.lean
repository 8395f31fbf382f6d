/- Two tries and their books beside each other. -/
import Derived.Test.YteeldfdbpibheabTrAB
import Derived.Test.YteeldfdbpibheabTrAC
import Derived.StillTailTactics
namespace Go.Proofs.Yteeldfdbpibheab.Tri
open Go.ChangeShapes Go.WideShapes Go.ChangeAt Go.RowKit Go.Shelf Go.Proofs.Yteeldfdbpibheab.PM Go.Proofs.Yteeldfdbpibheab.TrM Go.Proofs.Yteeldfdbpibheab.Ask
set_option linter.unusedVariables false

/-- the prefix and the value of each step of a list of steps -/
structure Arr7 (w : World) (a : Option Addr) (l : List (Int × Int × Int)) : Prop where
  small : l.length ≤ 9223372036854775807
  cells : ∀ i (h : i < l.length), ∃ b o, a = some ⟨b, o, none⟩ ∧ b < w.heap.size ∧ w.cell? ⟨b, o + i * 7 + 2, none⟩ = some (.int .u32 l[i].1) ∧ w.cell? ⟨b, o + i * 7 + 2 + 1, none⟩ = some (.int .i64 l[i].2.1) ∧ w.cell? ⟨b, o + i * 7 + 4, none⟩ = some (.int .i64 l[i].2.2)
  u32 : ∀ d ∈ l, In32 d.1
theorem Arr7.bel {n₀ : Nat} {w w' : World} {a : Option Addr} {l : List (Int × Int × Int)} (h : Arr7 w a l) (hb : Below w.heap.size w w') : Arr7 w' a l :=
  ⟨h.small, fun i hi => by
    obtain ⟨b, o, e, hlt, h0, h1, h2⟩ := h.cells i hi
    exact ⟨b, o, e, Nat.lt_of_lt_of_le hlt hb.size, cell_bel h0 hb, cell_bel h1 hb, cell_bel h2 hb⟩, h.u32⟩

/-- a book lies at block bk -/
def Book (ok : Nat → Prop) (bk : Nat) (l : List (Int × Int × Int)) (W : World) : Prop :=
  ∃ a cap, W.cell? ⟨bk, 0, none⟩ = some (.slice a l.length cap) ∧ W.frozen? ⟨bk, 0, none⟩ = false ∧ Arr3 W a l ∧ ∀ b o, a = some ⟨b, o, none⟩ → ok b
theorem Arr3.but {B : Nat} {W W' : World} {a : Option Addr} {l : List (Int × Int × Int)} (h : Arr3 W a l) (hb : But B W W') (hne : ∀ b o, a = some ⟨b, o, none⟩ → b ≠ B) : Arr3 W' a l :=
  ⟨h.small, fun i hi => by
    obtain ⟨b, o, e, hlt, h0, h1, h2⟩ := h.cells i hi
    have hn := hne b o e
    exact ⟨b, o, e, Nat.lt_of_lt_of_le hlt hb.size, (hb.cell _ hlt hn).trans h0, (hb.cell _ hlt hn).trans h1, (hb.cell _ hlt hn).trans h2⟩, h.u32⟩
theorem lt_cell {W : World} {a : Addr} {v : Value} (h : W.cell? a = some v) : a.block < W.heap.size := by
  obtain ⟨o, ho, -⟩ := cells_of_cell h; exact (Array.getElem?_eq_some_iff.1 ho).1
theorem Book.but {ok : Nat → Prop} {bk B : Nat} {l : List (Int × Int × Int)} {W W' : World} (h : Book ok bk l W) (hb : But B W W') (h1 : bk ≠ B) (h2 : ¬ ok B) : Book ok bk l W' := by
  obtain ⟨a, cap, hc, hf, ha, hk⟩ := h
  have hlt := lt_cell hc
  exact ⟨a, cap, (hb.cell 0 hlt h1).trans hc, (hb.frozen 0 hlt h1).trans hf, ha.but hb (fun b o e hbb => h2 (hbb ▸ hk b o e)), hk⟩
theorem Book.bel {ok : Nat → Prop} {bk : Nat} {l : List (Int × Int × Int)} {W W' : World} (h : Book ok bk l W) (hb : Below W.heap.size W W') : Book ok bk l W' := by
  obtain ⟨a, cap, hc, hf, ha, hk⟩ := h
  exact ⟨a, cap, cell_bel hc hb, (frozen_bel hc hb).trans hf, ha.bel hb, hk⟩
theorem Holds.but {ok : Nat → Prop} {bt B : Nat} {t : Tr} {p : Option Addr} {c : Int} {W W' : World} (h : Holds ok W bt t p c) (hb : But B W W') (h1 : bt ≠ B) (h2 : ¬ ok B) : Holds ok W' bt t p c :=
  ⟨(hb.cell 0 h.lt h1).trans h.root, (hb.cell 1 h.lt h1).trans h.count, (hb.frozen 0 h.lt h1).trans h.f0, (hb.frozen 1 h.lt h1).trans h.f1, Nat.lt_of_lt_of_le h.lt hb.size, h.rep.but hb (fun b hk => ⟨hk, fun e => h2 (e ▸ hk)⟩)⟩
/-- the book is written anew -/
theorem Book.set {ok : Nat → Prop} {bk : Nat} {l l' : List (Int × Int × Int)} {W : World} {a : Option Addr} {cap : Nat} (h : Book ok bk l W) (ha : Arr3 W a l') (hk : ∀ b o, a = some ⟨b, o, none⟩ → ok b) (hn : ¬ ok bk) : Book ok bk l' (W.setCell ⟨bk, 0, none⟩ (.slice a l'.length cap)) := by
  obtain ⟨a0, c0, hc, hf, -, -⟩ := h
  refine ⟨a, cap, World.cell?_setCell_same' _ _ _ (by rw [hc]; rfl), by rw [World.frozen?_setCell]; exact hf, ha.but ((But.refl bk W).setCell 0 _) (fun b o e hb => hn (hb ▸ hk b o e)), hk⟩

/-- a trie and its book -/
structure Pair (ok : Nat → Prop) (bt bk : Nat) (t : Tr) (W : World) : Prop where
  holds : ∃ p c, Holds ok W bt t p c
  book : Book ok bk (allT t) W
theorem Pair.bel {ok : Nat → Prop} {bt bk : Nat} {t : Tr} {W W' : World} (h : Pair ok bt bk t W) (hb : Below W.heap.size W W') : Pair ok bt bk t W' := by
  obtain ⟨⟨p, c, h1⟩, h2⟩ := h
  exact ⟨⟨p, c, h1.bel hb⟩, h2.bel hb⟩
theorem Pair.but {ok : Nat → Prop} {bt bk B : Nat} {t : Tr} {W W' : World} (h : Pair ok bt bk t W) (hb : But B W W') (h1 : bt ≠ B) (h2 : bk ≠ B) (h3 : ¬ ok B) : Pair ok bt bk t W' := by
  obtain ⟨⟨p, c, h4⟩, h5⟩ := h
  exact ⟨⟨p, c, h4.but hb h1 h3⟩, h5.but hb h2 h3⟩


theorem take_next {l : List (Int × Int × Int)} {k : Nat} (h : ¬ k < l.length) : l.take (k + 1) = l.take k := by
  rw [List.take_of_length_le (by omega), List.take_of_length_le (by omega)]
theorem all_len {l : List (Int × Int × Int)} (hl : ∀ d ∈ l, In32 d.1) : ∀ k, (allT (putAll .nil (l.take k))).length ≤ k := by
  intro k
  induction k with
  | zero => simp [putAll, allT]
  | succ k ih =>
    by_cases h : k < l.length
    · have hw : WF (putAll .nil (l.take k)) := wf_putAll (t := .nil) _ trivial (fun y hy => hl y (List.mem_of_mem_take hy))
      rw [putAll_snoc h, all_put1 hw (hl _ (List.getElem_mem h))]
      unfold bput
      split
      · have := bp_len l[k].1 l[k].2.1 l[k].2.2 (allT (putAll .nil (l.take k))) false
        simp at this; omega
      · omega
    · rw [take_next h]; omega

theorem book_new {ok : Nat → Prop} {bk : Nat} {W : World} {t : TypeId} (h : W.heap[bk]? = some (.cells #[.slice none 0 0] t (0, 0))) : Book ok bk [] W :=
  ⟨none, 0, by simp [World.cell?, h], by simp [World.frozen?, h], ⟨by simp, fun i hi => absurd hi (by simp), fun d hd => by cases hd⟩, fun b o e => by cases e⟩
theorem two_blocks (w : World) (o1 o2 : Obj) (W : World) (hW : W = (w.alloc o1).alloc o2) : W.heap[w.heap.size]? = some o1 ∧ W.heap[w.heap.size + 1]? = some o2 ∧ W.heap.size = w.heap.size + 2 ∧ Below w.heap.size w W := by
  subst hW
  have e1 := World.alloc_heap_new w o1
  have e2 := World.alloc_heap_new (w.alloc o1) o2
  rw [World.size_alloc] at e2
  exact ⟨hkA _ e1, e2, by simp, ((Below.refl _ w).alloc (Nat.le_refl _) _).alloc (by simp) _⟩
/-- what a put leaves of a pair: the trie is turned, the book not yet -/
theorem Pair.put {ok : Nat → Prop} {bt bk : Nat} {t t' : Tr} {W W' : World} {e : Ending} (h : Pair ok bt bk t W) (hne : bk ≠ bt) (hn : ¬ ok bt) (ht : Turned ok bt t' W e W') : (∃ p c, Holds ok W' bt t' p c) ∧ Book ok bk (allT t) W' ∧ But bt W W' := by
  obtain ⟨old, had, p, c, -, hb, hh⟩ := ht
  exact ⟨⟨p, c, hh⟩, h.book.but hb hne hn, hb⟩

/-- two pairs beside each other, in new memory -/
structure Duo (w : World) (bt bk : Nat) (t : Tr) (bt' bk' : Nat) (t' : Tr) (W : World) : Prop where
  bel : Below w.heap.size w W
  x : Pair (fun b => w.heap.size + 3 < b) bt bk t W
  y : Pair (fun b => w.heap.size + 3 < b) bt' bk' t' W
theorem Duo.swap {w : World} {bt bk : Nat} {t : Tr} {bt' bk' : Nat} {t' : Tr} {W : World} (h : Duo w bt bk t bt' bk' t' W) : Duo w bt' bk' t' bt bk t W := ⟨h.bel, h.y, h.x⟩
theorem Duo.below {w : World} {bt bk : Nat} {t : Tr} {bt' bk' : Nat} {t' : Tr} {W W' : World} (h : Duo w bt bk t bt' bk' t' W) (hb : Below W.heap.size W W') : Duo w bt bk t bt' bk' t' W' :=
  ⟨h.bel.trans (hb.mono h.bel.size), h.x.bel hb, h.y.bel hb⟩
/-- behind the trie's put, ahead of the book's -/
structure Duo1 (w : World) (bt bk : Nat) (t tn : Tr) (bt' bk' : Nat) (t' : Tr) (W : World) : Prop where
  bel : Below w.heap.size w W
  x : ∃ p c, Holds (fun b => w.heap.size + 3 < b) W bt tn p c
  bk : Book (fun b => w.heap.size + 3 < b) bk (allT t) W
  y : Pair (fun b => w.heap.size + 3 < b) bt' bk' t' W
theorem Duo1.below {w : World} {bt bk : Nat} {t tn : Tr} {bt' bk' : Nat} {t' : Tr} {W W' : World} (h : Duo1 w bt bk t tn bt' bk' t' W) (hb : Below W.heap.size W W') : Duo1 w bt bk t tn bt' bk' t' W' := by
  obtain ⟨p, c, h1⟩ := h.x
  exact ⟨h.bel.trans (hb.mono h.bel.size), ⟨p, c, h1.bel hb⟩, h.bk.bel hb, h.y.bel hb⟩
/-- the trie's put -/
theorem Duo.put {w : World} {bt bk : Nat} {t : Tr} {bt' bk' : Nat} {t' : Tr} {W : World} (h : Duo w bt bk t bt' bk' t' W) (hw : WF t) (h1 : bk ≠ bt) (h2 : bt' ≠ bt) (h3 : bk' ≠ bt) (h4 : w.heap.size ≤ bt) (h5 : bt ≤ w.heap.size + 3) (hs : w.heap.size + 3 < W.heap.size) (y : Int × Int × Int) (hy : In32 y.1) :
    Calls Try.prog 9 #[.pointer (some ⟨bt, 0, none⟩), .agg #[.int .u32 y.1, .int .i64 y.2.1], .int .i64 y.2.2] W fun e W' => ∃ v, e = .returned v ∧ Duo1 w bt bk t (put1 t y) bt' bk' t' W' := by
  obtain ⟨p, c, hh⟩ := h.x.holds
  refine (put1_any _ bt t p c y.1 y.2.1 y.2.2 W hh (by show ¬ _ < _; omega) (fun b hb => by show _ < _; omega) hw hy.1 hy.2).mono ?_
  rintro e W' ⟨old, had, p2, c2, rfl, hbut, hh2⟩
  have hn : ¬ (w.heap.size + 3 < bt) := by omega
  refine ⟨_, rfl, ?_, ⟨p2, c2, hh2⟩, h.x.book.but hbut h1 hn, h.y.but hbut h2 h3 hn⟩
  exact ⟨hbut.os.trans h.bel.os, hbut.tape.trans h.bel.tape, hbut.output.trans h.bel.output, Nat.le_trans h.bel.size hbut.size, fun k hk => (hbut.block k (by have := h.bel.size; omega) (by omega)).trans (h.bel.block k hk)⟩
/-- the book's put, ahead of the store -/
structure Duo2 (w : World) (bt bk : Nat) (t tn : Tr) (bt' bk' : Nat) (t' : Tr) (va : Option Addr) (n : Nat) (W : World) : Prop where
  one : Duo1 w bt bk t tn bt' bk' t' W
  arr : Arr3 W va (allT tn)
  len : n = (allT tn).length
  ok : ∀ b o, va = some ⟨b, o, none⟩ → w.heap.size + 3 < b
theorem Duo1.put {w : World} {bt bk : Nat} {t : Tr} {bt' bk' : Nat} {t' : Tr} {W : World} {y : Int × Int × Int} (h : Duo1 w bt bk t (put1 t y) bt' bk' t' W) (hw : WF t) (hy : In32 y.1) (hs : w.heap.size + 3 < W.heap.size) (hby : ((allT t).length + 2) * 24 ≤ 140737488355328) (a : Option Addr) (cap : Nat) (ha : Arr3 W a (allT t)) (hok : ∀ b o, a = some ⟨b, o, none⟩ → w.heap.size + 3 < b) (n : Nat) (hn : (allT t).length = n) :
    Calls Try.prog 10 #[.agg #[.slice a n cap], .agg #[.int .u32 y.1, .int .i64 y.2.1], .int .i64 y.2.2] W fun e W' => ∃ va' n' cap', e = .returned (.agg #[.slice va' n' cap']) ∧ Duo2 w bt bk t (put1 t y) bt' bk' t' va' n' W' := by
  subst hn
  refine (bput1_any a cap (allT t) y.1 y.2.1 y.2.2 W ha hy.1 hy.2 hby).mono ?_
  rintro e W' ⟨va', cap', rfl, h1, h2, h3⟩
  have hall : allT (put1 t y) = bput (allT t) (y.1, y.2.1, y.2.2) := all_put1 hw hy
  refine ⟨va', _, cap', rfl, h.below h2, by rw [hall]; exact h1, by rw [hall], fun b o e => ?_⟩
  rcases h3 with ⟨rfl, -⟩ | h3
  · exact hok b o e
  · have := h3 b o e; omega
theorem Duo2.done {w : World} {bt bk : Nat} {t tn : Tr} {bt' bk' : Nat} {t' : Tr} {va : Option Addr} {n : Nat} {W : World} (h : Duo2 w bt bk t tn bt' bk' t' va n W) (cap : Nat) (h1 : bt ≠ bk) (h2 : bt' ≠ bk) (h3 : bk' ≠ bk) (h4 : w.heap.size ≤ bk) (h5 : bk ≤ w.heap.size + 3) : Duo w bt bk tn bt' bk' t' (W.setCell ⟨bk, 0, none⟩ (.slice va n cap)) := by
  have hn : ¬ (w.heap.size + 3 < bk) := by omega
  have hbut : But bk W (W.setCell ⟨bk, 0, none⟩ (.slice va n cap)) := (But.refl _ _).setCell 0 _
  obtain ⟨p, c, hh⟩ := h.one.x
  have hl := h.len
  subst hl
  exact ⟨h.one.bel.setCell (p := ⟨bk, 0, none⟩) h4 _, ⟨⟨p, c, hh.but hbut h1 hn⟩, h.one.bk.set h.arr h.ok hn⟩, h.one.y.but hbut h2 h3 hn⟩

/-- what is asked at the end: the trie's items, and the book's -/
theorem Duo.all {w : World} {bt bk : Nat} {t : Tr} {bt' bk' : Nat} {t' : Tr} {wr : World} (h : Duo w bt bk t bt' bk' t' wr) (hw : WF t) (hby : (allT t).length * 24 ≤ 140737488355328) (lx : Nat) (hl : (allT t).length = lx) (W : World) (hb : Below wr.heap.size wr W) :
    Calls Try.prog 12 #[.pointer (some ⟨bt, 0, none⟩)] W fun e w' => ∃ a cap, e = .returned (.slice a lx cap) ∧ Arr3 w' a (allT t) ∧ Below wr.heap.size wr w' := by
  subst hl
  obtain ⟨p, c, hh⟩ := h.x.holds
  refine (trieAll_any _ bt t p c W (hh.bel hb) hw hby).mono ?_
  rintro e w' ⟨a, cap, rfl, h1, h2⟩
  exact ⟨a, cap, rfl, h1, hb.trans (h2.mono hb.size)⟩
theorem same_at {wr : World} {l : List (Int × Int × Int)} (pa : Option Addr) (pc : Nat) (hp : Arr3 wr pa l) (lx : Nat) (hl : l.length = lx) (a : Option Addr) (cap : Nat) (W : World) (ha : Arr3 W a l) (hb : Below wr.heap.size wr W) :
    Calls Try.prog 11 #[.slice a lx cap, .slice pa lx pc, .int .i64 (-1)] W fun e w' => e = .returned (.bool true) ∧ Below wr.heap.size wr w' := by
  subst hl
  refine (same_yes a pa cap pc l (-1) (by decide) W ha (hp.bel hb)).mono ?_
  rintro e w' ⟨rfl, h2⟩
  exact ⟨rfl, hb.trans (h2.mono hb.size)⟩

def Two (w : World) (tx ty : Tr) (W : World) : Prop := Duo w w.heap.size (w.heap.size + 1 + 1) tx (w.heap.size + 1) (w.heap.size + 1 + 1 + 1) ty W

set_option maxRecDepth 100000 in
set_option maxHeartbeats 4000000 in
theorem beside_any (va vb : Option Addr) (ca cb : Nat) (sa sb : List (Int × Int × Int)) (w : World) (ha : Arr7 w va sa) (hb : Arr7 w vb sb) (hya : (sa.length + 2) * 24 ≤ 140737488355328) (hyb : (sb.length + 2) * 24 ≤ 140737488355328) :
    Calls Try.prog 4 #[.slice va sa.length ca, .slice vb sb.length cb] w fun e w' => e = .returned (.bool true) ∧ Below w.heap.size w w' := by
  have HA : Hid (Arr7 w va sa) := ha
  have HB : Hid (Arr7 w vb sb) := hb
  have haS := ha.small
  have hbS := hb.small
  clear ha hb
  obtain ⟨La, hLa⟩ : ∃ L, sa.length = L := ⟨_, rfl⟩
  obtain ⟨Lb, hLb⟩ : ∃ L, sb.length = L := ⟨_, rfl⟩
  rw [hLa] at haS hya ⊢
  rw [hLb] at hbS hyb ⊢
  have HLA : Hid (sa.length = La) := hLa
  have HLB : Hid (sb.length = Lb) := hLb
  clear hLa hLb
  go_enter Try.func4, Try.ntmps4
  go_wp2_with fail
  refine (new_any w).mono ?_
  rintro e w1 ⟨rfl, hb1, hs1, hn1⟩
  go_wp2_with fail
  refine (new_any w1).mono ?_
  rintro e w2 ⟨rfl, hb2, hs2, hn2⟩
  have HX2 : Hid (Holds (fun b => w.heap.size + 3 < b) w2 w.heap.size .nil none 0) := (hn1 _).bel hb2
  have HY2 : Hid (Holds (fun b => w.heap.size + 3 < b) w2 (w.heap.size + 1) .nil none 0) := by have := hn2 (fun b => w.heap.size + 3 < b); rwa [hs1] at this
  have hbw2 : Below w.heap.size w w2 := hb1.trans (hb2.mono hb1.size)
  rw [hs1]
  clear hn1 hn2
  go_wp2_with fail
  obtain ⟨w3, hw3⟩ : ∃ w3, (w2.alloc (Obj.cells #[.slice none 0 0] 28)).alloc (Obj.cells #[.slice none 0 0] 28) = w3 := ⟨_, rfl⟩
  obtain ⟨g1, g2, hs3, hb3⟩ := two_blocks w2 _ _ w3 hw3.symm
  rw [hw3]
  rw [hs2, hs1] at g1 g2
  have HBO : Hid (Two w (putAll .nil (sa.take 0)) (putAll .nil (sb.take 0)) w3) := by
    refine ⟨hbw2.trans (hb3.mono hbw2.size), ⟨⟨none, 0, HX2.out.bel hb3⟩, book_new g1⟩, ⟨⟨none, 0, HY2.out.bel hb3⟩, book_new g2⟩⟩
  clear hw3 g1 g2 HX2 HY2 hb3
  go_loopw [9] (fun i wr => ∃ k : Nat, k ≤ max La Lb ∧ i = .int .i64 k ∧ Two w (putAll .nil (sa.take k)) (putAll .nil (sb.take k)) wr) (fun i _ => max La Lb - (intOf i).toNat)
  case atStart => exact ⟨0, by omega, rfl, HBO.out⟩
  case round =>
    obtain ⟨k, hk, rfl, hbo⟩ := hrel
    clear HBO
    have HBO : Hid (Two w (putAll .nil (sa.take k)) (putAll .nil (sb.take k)) wr) := hbo
    clear hbo
    have hsz : w.heap.size + 3 < wr.heap.size := by obtain ⟨a, cap, hc, -⟩ := HBO.out.y.book; have := lt_cell hc; simpa using this
    have HWA : Hid (WF (putAll .nil (sa.take k))) := wf_putAll (t := .nil) _ trivial (fun y hy => HA.out.u32 y (List.mem_of_mem_take hy))
    have HWB : Hid (WF (putAll .nil (sb.take k))) := wf_putAll (t := .nil) _ trivial (fun y hy => HB.out.u32 y (List.mem_of_mem_take hy))
    by_cases hla : k < La
    · have hkd : k < sa.length := by rw [HLA.out]; exact hla
      by_cases hlb : k < Lb
      · have hkdb : k < sb.length := by rw [HLB.out]; exact hlb
        have hkkb : (k : Int) < Lb := by omega
        obtain ⟨b, o, rfl, hbl, c0, c1, c2⟩ := (HA.out.bel (n₀ := 0) HBO.out.bel).cells k hkd
        have hkk : (k : Int) < La := by omega
        have kk0 : (0 : Int) ≤ k := by omega
        have hyI : In32 sa[k].1 := HA.out.u32 _ (List.getElem_mem hkd)
        go_wp2_with fail
        have HPUT : Hid (Calls _ _ _ _ _) := Duo.put (HBO.out.below (bel_q wr 1)) HWA.out (by omega) (by omega) (by omega) (by omega) (by omega) hsz sa[k] hyI
        go_still_tail 11, (by kernel_rfl)
        go_wp2_with (go_at_call 9; refine HPUT.out.mono ?_; rintro e w4 ⟨vv, rfl, hpx⟩)
        clear HPUT c0 c1 c2 hbl
        have HX4 : Hid (Duo1 w _ _ _ _ _ _ _ w4) := hpx
        clear hpx
        obtain ⟨pa, pc, q0, qz, harr, hok⟩ := HX4.out.bk
        obtain ⟨b', o', e', hbl, c0, c1, c2⟩ := (HA.out.bel (n₀ := 0) HX4.out.bel).cells k hkd
        cases e'
        have hsz4 : w.heap.size + 3 < w4.heap.size := by obtain ⟨a, cap, hc, -⟩ := HX4.out.y.book; have := lt_cell hc; simpa using this
        have hlen := all_len HA.out.u32 k
        obtain ⟨ln, hln⟩ : ∃ ln, (allT (putAll .nil (sa.take k))).length = ln := ⟨_, rfl⟩
        rw [hln] at q0 hlen
        have HPUT : Hid (Calls _ _ _ _ _) := Duo1.put (HX4.out.below (bel_q w4 1)) HWA.out hyI hsz4 (by rw [hln]; omega) pa pc (harr.bel (bel_q w4 1)) hok ln hln
        clear harr hok hln
        go_still_tail 11, (by kernel_rfl)
        go_wp2_with (go_at_call 10; refine HPUT.out.mono ?_; rintro e w5 ⟨va', n', cap', rfl, hpp⟩; have HX5 : Hid (Duo2 w _ _ _ _ _ _ _ _ _ w5) := hpp; obtain ⟨pa5, pc5, q05, qz5, -, -⟩ := hpp.one.bk; clear hpp)
        have HD5 : Hid (Two w (putAll .nil (sa.take (k + 1))) (putAll .nil (sb.take k)) (w5.setCell ⟨w.heap.size + 1 + 1, 0, none⟩ (.slice va' n' cap'))) := by
          have := HX5.out.done cap' (by omega) (by omega) (by omega) (by omega) (by omega)
          rw [← putAll_snoc hkd] at this; exact this
        clear HPUT HX5 HX4 q0 qz q05 qz5 c0 c1 c2
        obtain ⟨wY, hwY⟩ : ∃ wY, w5.setCell ⟨w.heap.size + 1 + 1, 0, none⟩ (.slice va' n' cap') = wY := ⟨_, rfl⟩
        rw [hwY] at HD5 ⊢
        have HD : Hid (Duo w _ _ _ _ _ _ wY) := HD5.out.swap
        clear hwY HD5 HBO
        have hszY : w.heap.size + 3 < wY.heap.size := by obtain ⟨a, cap, hc, -⟩ := HD.out.x.book; have := lt_cell hc; simpa using this
        obtain ⟨b2, o2, rfl, hbl2, c0, c1, c2⟩ := (HB.out.bel (n₀ := 0) HD.out.bel).cells k hkdb
        have hyI2 : In32 sb[k].1 := HB.out.u32 _ (List.getElem_mem hkdb)
        have HPUT : Hid (Calls _ _ _ _ _) := Duo.put (HD.out.below (bel_q wY 1)) HWB.out (by omega) (by omega) (by omega) (by omega) (by omega) hszY sb[k] hyI2
        go_still_tail 11, (by kernel_rfl)
        go_wp2_with (go_at_call 9; refine HPUT.out.mono ?_; rintro e w4 ⟨vv, rfl, hpx⟩)
        clear HPUT c0 c1 c2 hbl2
        have HX4 : Hid (Duo1 w _ _ _ _ _ _ _ w4) := hpx
        clear hpx
        obtain ⟨pa, pc, q0, qz, harr, hok⟩ := HX4.out.bk
        obtain ⟨b', o', e', hbl2, c0, c1, c2⟩ := (HB.out.bel (n₀ := 0) HX4.out.bel).cells k hkdb
        cases e'
        have hsz4 : w.heap.size + 3 < w4.heap.size := by obtain ⟨a, cap, hc, -⟩ := HX4.out.bk; have := lt_cell hc; simpa using this
        have hlen := all_len HB.out.u32 k
        obtain ⟨ln, hln⟩ : ∃ ln, (allT (putAll .nil (sb.take k))).length = ln := ⟨_, rfl⟩
        rw [hln] at q0 hlen
        have HPUT : Hid (Calls _ _ _ _ _) := Duo1.put (HX4.out.below (bel_q w4 1)) HWB.out hyI2 hsz4 (by rw [hln]; omega) pa pc (harr.bel (bel_q w4 1)) hok ln hln
        clear harr hok hln
        go_still_tail 11, (by kernel_rfl)
        go_wp2_with (go_at_call 10; refine HPUT.out.mono ?_; rintro e w6 ⟨va2, n2, cap2, rfl, hpp⟩; have HX5 : Hid (Duo2 w _ _ _ _ _ _ _ _ _ w6) := hpp; obtain ⟨pa5, pc5, q05, qz5, -, -⟩ := hpp.one.bk; clear hpp)
        have HD6 : Hid (Two w (putAll .nil (sa.take (k + 1))) (putAll .nil (sb.take (k + 1))) (w6.setCell ⟨w.heap.size + 1 + 1 + 1, 0, none⟩ (.slice va2 n2 cap2))) := by
          have := HX5.out.done cap2 (by omega) (by omega) (by omega) (by omega) (by omega)
          rw [← putAll_snoc hkdb] at this; exact this.swap
        go_roundw
        case rel => exact ⟨k + 1, by omega, by simp, HD6.out⟩
        case measure => simp [intOf]; omega
      · have hkdb : ¬ k < sb.length := by rw [HLB.out]; exact hlb
        have hkkb : ¬ (k : Int) < Lb := by omega
        obtain ⟨b, o, rfl, hbl, c0, c1, c2⟩ := (HA.out.bel (n₀ := 0) HBO.out.bel).cells k hkd
        have hkk : (k : Int) < La := by omega
        have kk0 : (0 : Int) ≤ k := by omega
        have hyI : In32 sa[k].1 := HA.out.u32 _ (List.getElem_mem hkd)
        go_wp2_with fail
        have HPUT : Hid (Calls _ _ _ _ _) := Duo.put (HBO.out.below (bel_q wr 1)) HWA.out (by omega) (by omega) (by omega) (by omega) (by omega) hsz sa[k] hyI
        go_still_tail 11, (by kernel_rfl)
        go_wp2_with (go_at_call 9; refine HPUT.out.mono ?_; rintro e w4 ⟨vv, rfl, hpx⟩)
        clear HPUT c0 c1 c2 hbl
        have HX4 : Hid (Duo1 w _ _ _ _ _ _ _ w4) := hpx
        clear hpx
        obtain ⟨pa, pc, q0, qz, harr, hok⟩ := HX4.out.bk
        obtain ⟨b', o', e', hbl, c0, c1, c2⟩ := (HA.out.bel (n₀ := 0) HX4.out.bel).cells k hkd
        cases e'
        have hsz4 : w.heap.size + 3 < w4.heap.size := by obtain ⟨a, cap, hc, -⟩ := HX4.out.y.book; have := lt_cell hc; simpa using this
        have hlen := all_len HA.out.u32 k
        obtain ⟨ln, hln⟩ : ∃ ln, (allT (putAll .nil (sa.take k))).length = ln := ⟨_, rfl⟩
        rw [hln] at q0 hlen
        have HPUT : Hid (Calls _ _ _ _ _) := Duo1.put (HX4.out.below (bel_q w4 1)) HWA.out hyI hsz4 (by rw [hln]; omega) pa pc (harr.bel (bel_q w4 1)) hok ln hln
        clear harr hok hln
        go_still_tail 11, (by kernel_rfl)
        go_wp2_with (go_at_call 10; refine HPUT.out.mono ?_; rintro e w5 ⟨va', n', cap', rfl, hpp⟩; have HX5 : Hid (Duo2 w _ _ _ _ _ _ _ _ _ w5) := hpp; obtain ⟨pa5, pc5, q05, qz5, -, -⟩ := hpp.one.bk; clear hpp)
        have HD5 : Hid (Two w (putAll .nil (sa.take (k + 1))) (putAll .nil (sb.take k)) (w5.setCell ⟨w.heap.size + 1 + 1, 0, none⟩ (.slice va' n' cap'))) := by
          have := HX5.out.done cap' (by omega) (by omega) (by omega) (by omega) (by omega)
          rw [← putAll_snoc hkd] at this; exact this
        clear HPUT HX5 HX4 q0 qz q05 qz5 c0 c1 c2
        have HD6 : Hid (Two w (putAll .nil (sa.take (k + 1))) (putAll .nil (sb.take (k + 1))) (w5.setCell ⟨w.heap.size + 1 + 1, 0, none⟩ (.slice va' n' cap'))) := by
          have := HD5.out; rw [← take_next hkdb] at this; exact this
        go_roundw
        case rel => exact ⟨k + 1, by omega, by simp, HD6.out⟩
        case measure => simp [intOf]; omega
    · have hkd : ¬ k < sa.length := by rw [HLA.out]; exact hla
      have hkka : ¬ (k : Int) < La := by omega
      by_cases hlb : k < Lb
      · have hkdb : k < sb.length := by rw [HLB.out]; exact hlb
        have hkkb : (k : Int) < Lb := by omega
        have kk0 : (0 : Int) ≤ k := by omega
        go_wp2_with fail
        obtain ⟨wY, hwY⟩ : ∃ wY, wr = wY := ⟨_, rfl⟩
        subst hwY
        have HD : Hid (Duo w _ _ _ _ _ _ wr) := HBO.out.swap
        have hszY := hsz
        obtain ⟨b2, o2, rfl, hbl2, c0, c1, c2⟩ := (HB.out.bel (n₀ := 0) HD.out.bel).cells k hkdb
        have hyI2 : In32 sb[k].1 := HB.out.u32 _ (List.getElem_mem hkdb)
        have HPUT : Hid (Calls _ _ _ _ _) := Duo.put (HD.out.below (bel_q wr 1)) HWB.out (by omega) (by omega) (by omega) (by omega) (by omega) hszY sb[k] hyI2
        go_still_tail 11, (by kernel_rfl)
        go_wp2_with (go_at_call 9; refine HPUT.out.mono ?_; rintro e w4 ⟨vv, rfl, hpx⟩)
        clear HPUT c0 c1 c2 hbl2
        have HX4 : Hid (Duo1 w _ _ _ _ _ _ _ w4) := hpx
        clear hpx
        obtain ⟨pa, pc, q0, qz, harr, hok⟩ := HX4.out.bk
        obtain ⟨b', o', e', hbl2, c0, c1, c2⟩ := (HB.out.bel (n₀ := 0) HX4.out.bel).cells k hkdb
        cases e'
        have hsz4 : w.heap.size + 3 < w4.heap.size := by obtain ⟨a, cap, hc, -⟩ := HX4.out.bk; have := lt_cell hc; simpa using this
        have hlen := all_len HB.out.u32 k
        obtain ⟨ln, hln⟩ : ∃ ln, (allT (putAll .nil (sb.take k))).length = ln := ⟨_, rfl⟩
        rw [hln] at q0 hlen
        have HPUT : Hid (Calls _ _ _ _ _) := Duo1.put (HX4.out.below (bel_q w4 1)) HWB.out hyI2 hsz4 (by rw [hln]; omega) pa pc (harr.bel (bel_q w4 1)) hok ln hln
        clear harr hok hln
        go_still_tail 11, (by kernel_rfl)
        go_wp2_with (go_at_call 10; refine HPUT.out.mono ?_; rintro e w6 ⟨va2, n2, cap2, rfl, hpp⟩; have HX5 : Hid (Duo2 w _ _ _ _ _ _ _ _ _ w6) := hpp; obtain ⟨pa5, pc5, q05, qz5, -, -⟩ := hpp.one.bk; clear hpp)
        have HD6 : Hid (Two w (putAll .nil (sa.take (k + 1))) (putAll .nil (sb.take (k + 1))) (w6.setCell ⟨w.heap.size + 1 + 1 + 1, 0, none⟩ (.slice va2 n2 cap2))) := by
          have := HX5.out.done cap2 (by omega) (by omega) (by omega) (by omega) (by omega)
          rw [← putAll_snoc hkdb, ← take_next hkd] at this; exact this.swap
        go_roundw
        case rel => exact ⟨k + 1, by omega, by simp, HD6.out⟩
        case measure => simp [intOf]; omega
      · have hkkb : ¬ (k : Int) < Lb := by omega
        obtain ⟨pa, pc, p0, pz, harrp, -⟩ := HBO.out.x.book
        obtain ⟨qa, qc, q0, qz, harrq, -⟩ := HBO.out.y.book
        have hlx := all_len HA.out.u32 k
        have hly := all_len HB.out.u32 k
        have hlx2 : (allT (putAll .nil (sa.take k))).length ≤ La := by
          have := all_len HA.out.u32 La
          have e : sa.take k = sa.take La := by rw [List.take_of_length_le (by rw [HLA.out]; omega), List.take_of_length_le (by rw [HLA.out]; omega)]
          rw [e]; exact this
        have hly2 : (allT (putAll .nil (sb.take k))).length ≤ Lb := by
          have := all_len HB.out.u32 Lb
          have e : sb.take k = sb.take Lb := by rw [List.take_of_length_le (by rw [HLB.out]; omega), List.take_of_length_le (by rw [HLB.out]; omega)]
          rw [e]; exact this
        obtain ⟨lx, hlxe⟩ : ∃ ln, (allT (putAll .nil (sa.take k))).length = ln := ⟨_, rfl⟩
        obtain ⟨ly, hlye⟩ : ∃ ln, (allT (putAll .nil (sb.take k))).length = ln := ⟨_, rfl⟩
        have HX : Hid (∀ W, Below wr.heap.size wr W → Calls _ _ _ W _) := fun W hW => Duo.all HBO.out HWA.out (by omega) lx hlxe W hW
        have HY : Hid (∀ W, Below wr.heap.size wr W → Calls _ _ _ W _) := fun W hW => Duo.all HBO.out.swap HWB.out (by omega) ly hlye W hW
        have HSX : Hid (∀ a cap W, Arr3 W a _ → Below wr.heap.size wr W → Calls _ _ _ W _) := fun a cap W h1 h2 => same_at pa pc harrp lx hlxe a cap W h1 h2
        have HSY : Hid (∀ a cap W, Arr3 W a _ → Below wr.heap.size wr W → Calls _ _ _ W _) := fun a cap W h1 h2 => same_at qa qc harrq ly hlye a cap W h1 h2
        rw [hlxe] at p0
        rw [hlye] at q0
        have hbwr := HBO.out.bel
        clear harrp harrq hlx hly hlx2 hly2 hlxe hlye HBO
        go_wp2_with fail
        go_region_held3 (fun w' => w'.cell? ⟨w.heap.size + 1 + 1, 0, none⟩ = some (.slice pa lx pc) ∧ w'.cell? ⟨w.heap.size + 1 + 1 + 1, 0, none⟩ = some (.slice qa ly qc)) (first | (simp [go_sem, p0, q0]; done) | (refine ⟨?_, ?_⟩ <;> assumption) | go_keep)
          (first
            | (go_at_call_of 12 (Value.pointer (some ⟨w.heap.size, 0, none⟩)); refine (HX.out _ (bel_q wr 1)).mono ?_; rintro e w4 ⟨a4, c4, rfl, h4, hb4⟩; have x4 := cell_bel p0 hb4; have y4 := cell_bel q0 hb4)
            | (go_at_call_of 11 (Value.slice a4 lx c4); refine (HSX.out a4 c4 w4 h4 hb4).mono ?_; rintro e w5 ⟨rfl, hb5⟩; have x5 := cell_bel p0 hb5; have y5 := cell_bel q0 hb5)
            | (go_at_call 12; refine (HY.out w5 hb5).mono ?_; rintro e w6 ⟨a6, c6, rfl, h6, hb6⟩; have x6 := cell_bel p0 hb6; have y6 := cell_bel q0 hb6)
            | (go_at_call_of 11 (Value.slice a6 ly c6); refine (HSY.out a6 c6 w6 h6 hb6).mono ?_; rintro e w7 ⟨rfl, hb7⟩; have x7 := cell_bel p0 hb7; have y7 := cell_bel q0 hb7))
        all_goals
          go_wp2_with fail
          go_ret
          exact ⟨rfl, hbwr.trans (hb7.mono hbwr.size)⟩
end Go.Proofs.Yteeldfdbpibheab.Tri
