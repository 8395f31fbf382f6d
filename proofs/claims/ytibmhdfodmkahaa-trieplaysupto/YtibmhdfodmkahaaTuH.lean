/- TrieStir. -/
import Derived.Test.YtibmhdfodmkahaaTuG
import Derived.Test.YtibmhdfodmkahaaTuY
import Derived.Maps.OwnIn
import Derived.RangeFuncNested
namespace Go.Proofs.Ytibmhdfodmkahaa.Tu
open Go.ChangeShapes Go.WideShapes Go.ChangeAt Go.RowKit Go.Shelf Go.Proofs.Ytibmhdfodmkahaa.PM Go.Proofs.Ytibmhdfodmkahaa.TrM Go.Proofs.Ytibmhdfodmkahaa.Ask Go.Proofs.Ytibmhdfodmkahaa.Tri Go.Proofs.Ytibmhdfodmkahaa.Tuz
set_option linter.unusedVariables false
attribute [local go_sem] Oper.semAt_some

/-- where nodes may lie: not in the box sb, nor in the list v -/
def okv (ok : Nat → Prop) (sb : Nat) (v : Value) (b : Nat) : Prop := (ok b ∧ b ≠ sb) ∧ some b ≠ v.ownBlock
/-- the list, and the trie behind it -/
def Ot (ok : Nat → Prop) (s bt : Nat) (T : Tr) (pre : List (Int × Int × Int)) (v : Value) (W : World) : Prop := (Boxed W (s + 1 + 1) 38 v ∧ RowOf W (s + 1 + 1) 43 v pre) ∧ HoldsN (okv ok (s + 1 + 1) v) W bt T
theorem Ot.own {ok : Nat → Prop} {s bt : Nat} {T : Tr} {pre : List (Int × Int × Int)} {v : Value} {A B : World} {row : Option Nat} (h : Ot ok s bt T pre v A) (hg : A.grownBy B row) (hr : ∀ r, row = some r → ∃ o : Obj, A.heap[r]? = some o ∧ o.isCells = false) : Ot ok s bt T pre v B :=
  ⟨⟨box_own h.1.1 hg hr, row_own h.1.2 hg hr⟩, h.2.own hg hr⟩
/-- what else lies there: the box of the trie's pointer, that of the list, and the list -/
def Ob (s bt : Nat) (vm : Option Addr) (cm : Nat) (more : List (Int × Int × Int)) (W : World) : Prop := (W.cell? ⟨s, 0, none⟩ = some (.pointer (some ⟨bt, 0, none⟩)) ∧ W.cell? ⟨s + 1, 0, none⟩ = some (.slice vm more.length cm)) ∧ Arr3 W vm more
theorem arr_own {A B : World} {row : Option Nat} {a : Option Addr} {l : List (Int × Int × Int)} (h : Arr3 A a l) (hg : A.grownBy B row) (hr : ∀ r, row = some r → ∃ o : Obj, A.heap[r]? = some o ∧ o.isCells = false) : Arr3 B a l :=
  ⟨h.small, fun i hi => by
    obtain ⟨b, o, e, hlt, h0, h1, h2⟩ := h.cells i hi
    exact ⟨b, o, e, Nat.lt_of_lt_of_le hlt hg.size, cell_kept h0 hg hr, cell_kept h1 hg hr, cell_kept h2 hg hr⟩, h.u32⟩
theorem Ob.own {s bt : Nat} {vm : Option Addr} {cm : Nat} {more : List (Int × Int × Int)} {A B : World} {row : Option Nat} (h : Ob s bt vm cm more A) (hg : A.grownBy B row) (hr : ∀ r, row = some r → ∃ o : Obj, A.heap[r]? = some o ∧ o.isCells = false) : Ob s bt vm cm more B :=
  ⟨⟨cell_kept h.1.1 hg hr, cell_kept h.1.2 hg hr⟩, arr_own h.2 hg hr⟩
theorem belX_own {bt s n : Nat} {w : World} (hs : w.heap.size = s) (hn : s ≤ n) : OwnFrom n (fun (_ : List (Int × Int × Int)) W => BelX bt s w W) := fun _ A B row h hg hr =>
  ⟨hg.os.trans h.os, hg.tape.trans h.tape, hg.output.trans h.output, Nat.le_trans h.size hg.size, fun k hk hne => (hg.block k (by have := h.size; omega) (fun e => by have := (hr k e.symm).1; omega)).trans (h.block k hk hne)⟩
/-- an item is appended to the list -/
theorem Ot.app {ok : Nat → Prop} {s bt : Nat} {T : Tr} {pre : List (Int × Int × Int)} {v v' : Value} {W w2 : World} {tmp : Obj} (h : Ot ok s bt T pre v W) (hbt : bt < s) (hn₀ : s + 1 + 1 ≤ W.heap.size) {y : Int × Int × Int}
    (hown' : w2.ownsRow (s + 1 + 1) 43 3 v' (pre.length + 1) (encs pre ++ [.int .u32 y.1, .int .i64 y.2.1, .int .i64 y.2.2])) (hgrow : (W.alloc tmp).grownBy w2 v.ownBlock) (hat : v'.ownBlock = v.ownBlock ∨ v'.ownBlock = some (W.heap.size + 1)) :
    Boxed w2 (s + 1 + 1) 38 v ∧ Ot ok s bt T (pre ++ [y]) v' (w2.setCell ⟨s + 1 + 1, 0, none⟩ v') ∧ KeepsOthers W (w2.setCell ⟨s + 1 + 1, 0, none⟩ v') ∧ Below (s + 1 + 1) W (w2.setCell ⟨s + 1 + 1, 0, none⟩ v') := by
  obtain ⟨⟨hv, hrow⟩, hh⟩ := h
  obtain ⟨hv1, hv2, hr2, hk2, hb2⟩ := hv.appended (n₀ := s + 1 + 1) (by decide) hrow hn₀ (Nat.le_refl _) hown' hgrow
  have hne : ∀ k, v.ownBlock = some k → s + 1 + 1 ≤ k := fun k e => (World.ownsRow.lt hrow k e).1
  refine ⟨hv1, ⟨⟨hv2, ?_⟩, ?_⟩, hk2, hb2⟩
  · obtain ⟨ya, yn, yv⟩ := y
    unfold RowOf; rw [encs_snoc, List.length_append]; exact hr2
  · have hblk : ∀ b, b < W.heap.size → b ≠ s + 1 + 1 → some b ≠ v.ownBlock → (w2.setCell ⟨s + 1 + 1, 0, none⟩ v').heap[b]? = W.heap[b]? := fun b hb h1 h2 => by
      rw [Below.heap_setCell _ _ _ _ (by simpa using h1), hgrow.block b (by simp; omega) h2]
      exact Below.heap_alloc _ _ _ hb
    refine hh.keep hb2.size (hblk bt hh.lt (by omega) (fun e => by have := hne bt e.symm; omega)) ?_
    rintro b ⟨⟨h1, h2⟩, h3⟩ hlt
    refine ⟨⟨⟨h1, h2⟩, fun e => ?_⟩, hblk b hlt h2 h3⟩
    rcases hat with hat | hat
    · rw [hat] at e; exact h3 e
    · rw [hat] at e; simp at e; omega
/-- the trie turns, the rest stays -/
theorem Ot.turn {ok : Nat → Prop} {s bt : Nat} {T T' : Tr} {pre : List (Int × Int × Int)} {v : Value} {W W' : World} {r : Option Int} {e : Ending} (h : Ot ok s bt T pre v W) (hbt : bt < s) (ht : TurnedN (okv ok (s + 1 + 1) v) bt T' r W e W') : Ot ok s bt T' pre v W' := by
  obtain ⟨⟨hv, hrow⟩, hh⟩ := h
  obtain ⟨-, hb, h2⟩ := ht
  refine ⟨⟨(hb.block _ (Array.getElem?_eq_some_iff.1 hv).1 (by omega)).trans hv, ?_⟩, h2⟩
  have hg : W.grownBy W' (some bt) := ⟨hb.os, hb.tape, hb.output, hb.size, fun k hk hne => hb.block k hk (fun e => hne (by rw [e]))⟩
  exact World.ownsRow.kept hrow hg (.inr (fun e => by have := (World.ownsRow.lt hrow bt (by rw [e])).1; omega))
theorem Ob.turn {s bt : Nat} {vm : Option Addr} {cm : Nat} {more : List (Int × Int × Int)} {W W' : World} (h : Ob s bt vm cm more W) (hbt : bt < s) (hne : ∀ b o, vm = some ⟨b, o, none⟩ → b ≠ bt) (hb : But bt W W') : Ob s bt vm cm more W' :=
  ⟨⟨(hb.cell 0 (World.block_lt_of_cell? W _ h.1.1) (show s ≠ bt by omega)).trans h.1.1, (hb.cell 0 (World.block_lt_of_cell? W _ h.1.2) (show s + 1 ≠ bt by omega)).trans h.1.2⟩, ⟨h.2.small, fun i hi => by
    obtain ⟨b, o, e, hlt, h0, h1, h2⟩ := h.2.cells i hi
    have hn := hne b o e
    exact ⟨b, o, e, Nat.lt_of_lt_of_le hlt hb.size, (hb.cell _ hlt hn).trans h0, (hb.cell _ hlt hn).trans h1, (hb.cell _ hlt hn).trans h2⟩, h.2.u32⟩⟩
/-- what stays where an item is appended: the list's own block is none of these -/
theorem Ob.app {s bt : Nat} {vm : Option Addr} {cm : Nat} {more : List (Int × Int × Int)} {W W' : World} (h : Ob s bt vm cm more W) (hlow : 0 < more.length → ∀ b o, vm = some ⟨b, o, none⟩ → b < s) (hb : Below (s + 1 + 1) W W') : Ob s bt vm cm more W' :=
  ⟨⟨(hb.cell (p := ⟨s, 0, none⟩) (show s < s + 1 + 1 by omega)).trans h.1.1, (hb.cell (p := ⟨s + 1, 0, none⟩) (show s + 1 < s + 1 + 1 by omega)).trans h.1.2⟩, ⟨h.2.small, fun i hi => by
    obtain ⟨b, o, e, hlt, h0, h1, h2⟩ := h.2.cells i hi
    have hn := hlow (by omega) b o e
    have hc := fun j : Nat => hb.cell (p := ⟨b, j, none⟩) (show b < s + 1 + 1 by omega)
    exact ⟨b, o, e, Nat.lt_of_lt_of_le hlt hb.size, (hc _).trans h0, (hc _).trans h1, (hc _).trans h2⟩, h.2.u32⟩⟩
theorem belX_but {bt s : Nat} {w W W' : World} (h : BelX bt s w W) (hs : s ≤ W.heap.size) (hb : But bt W W') : BelX bt s w W' :=
  ⟨hb.os.trans h.os, hb.tape.trans h.tape, hb.output.trans h.output, Nat.le_trans h.size hb.size, fun k hk hne => (hb.block k (by omega) hne).trans (h.block k hk hne)⟩
theorem belX_of_but {bt s : Nat} {W W' : World} (hs : s ≤ W.heap.size) (hb : But bt W W') : BelX bt s W W' := belX_but (BelX.refl bt s W) hs hb
theorem keeps_but {B bt : Nat} {W W' : World} (h : But bt W W') (hb : bt < B) : KeepsFrom B W W' := ⟨h.size, fun k o hk ho _ => (h.block k (Array.getElem?_eq_some_iff.1 ho).1 (by omega)).trans ho⟩
theorem keeps_bel {B : Nat} {W W' : World} (h : Below W.heap.size W W') : KeepsFrom B W W' := ⟨h.size, fun k o _ ho _ => (h.block k (Array.getElem?_eq_some_iff.1 ho).1).trans ho⟩
/-- a box of a prefix is no list's, and stays -/
theorem box_app {s Bx : Nat} {z : Int × Int} {W w2 : World} {v v' : Value} {tmp : Obj} {pre : List (Int × Int × Int)} (h : W.heap[Bx]? = some (Obj.cells #[.int .u32 z.1, .int .i64 z.2] 33)) (hs : s + 5 ≤ Bx) (hrow : RowOf W (s + 1 + 1) 43 v pre) (hgrow : (W.alloc tmp).grownBy w2 v.ownBlock) :
    (w2.setCell ⟨s + 1 + 1, 0, none⟩ v').heap[Bx]? = some (Obj.cells #[.int .u32 z.1, .int .i64 z.2] 33) := by
  have hlt : Bx < W.heap.size := (Array.getElem?_eq_some_iff.1 h).1
  have hne : some Bx ≠ v.ownBlock := by
    rcases hrow.2 with ⟨rfl, _⟩ | ⟨g, cap, cur, rfl, _, hgb, _⟩
    · intro e; simp [Value.ownBlock] at e
    · intro e
      obtain rfl : Bx = g := by simpa [Value.ownBlock] using e
      rw [h] at hgb
      simp at hgb
  rw [Below.heap_setCell _ _ _ _ (by simp; omega), hgrow.block _ (by simp; omega) hne]
  exact (Below.heap_alloc _ _ _ hlt).trans h
/-- within a round of TrieStir: j of more are put -/
structure Sj (ok : Nat → Prop) (s bt : Nat) (T : Tr) (pre : List (Int × Int × Int)) (v : Value) (vm : Option Addr) (cm : Nat) (more : List (Int × Int × Int)) (W0 : World) (j : Nat) (W : World) : Prop where
  ot : Ot ok s bt (TrM.putAll T (more.take j)) pre v W
  ob : Ob s bt vm cm more W
  size : s + 5 ≤ W.heap.size
  bel : BelX bt s W0 W
  keeps : KeepsFrom (s + 5) W0 W
theorem putAll_take {T : Tr} {more : List (Int × Int × Int)} {j : Nat} (h : j < more.length) : TrM.putAll T (more.take (j + 1)) = TrM.put1 (TrM.putAll T (more.take j)) more[j] := by
  rw [List.take_succ_eq_append_getElem h]
  unfold TrM.putAll
  rw [List.foldl_append]; rfl
theorem Sj.alloc {ok : Nat → Prop} {s bt : Nat} {T : Tr} {pre : List (Int × Int × Int)} {v : Value} {vm : Option Addr} {cm : Nat} {more : List (Int × Int × Int)} {W0 : World} {j : Nat} {W W' : World} (h : Sj ok s bt T pre v vm cm more W0 j W) (hb : Below W.heap.size W W') : Sj ok s bt T pre v vm cm more W0 j W' :=
  have hg := grown_bel hb none
  have hr : ∀ r : Nat, (none : Option Nat) = some r → ∃ o : Obj, W.heap[r]? = some o ∧ o.isCells = false := fun r e => by cases e
  ⟨h.ot.own hg hr, h.ob.own hg hr, Nat.le_trans h.size hb.size, h.bel.trans (BelX.of (hb.mono (by have := h.size; omega))), h.keeps.trans (keeps_bel hb)⟩
theorem Sj.next {ok : Nat → Prop} {s bt : Nat} {T : Tr} {pre : List (Int × Int × Int)} {v : Value} {vm : Option Addr} {cm : Nat} {more : List (Int × Int × Int)} {W0 : World} {j : Nat} {W W' : World} {r : Option Int} {e : Ending} (h : Sj ok s bt T pre v vm cm more W0 j W) (hbt : bt < s) (hne : ∀ b o, vm = some ⟨b, o, none⟩ → b ≠ bt) (hj : j < more.length)
    (ht : TurnedN (okv ok (s + 1 + 1) v) bt (TrM.put1 (TrM.putAll T (more.take j)) more[j]) r W e W') : Sj ok s bt T pre v vm cm more W0 (j + 1) W' :=
  ⟨by rw [putAll_take hj]; exact h.ot.turn hbt ht, h.ob.turn hbt hne ht.2.1, Nat.le_trans h.size ht.2.1.size, belX_but h.bel (by have := h.size; omega) ht.2.1, h.keeps.trans (keeps_but ht.2.1 (by omega))⟩
theorem okv_new {ok : Nat → Prop} {s : Nat} {v : Value} {W : World} {pre : List (Int × Int × Int)} (hnew : ∀ b, s ≤ b → ok b) (hs : s + 5 ≤ W.heap.size) (hrow : RowOf W (s + 1 + 1) 43 v pre) : ∀ b, W.heap.size ≤ b → okv ok (s + 1 + 1) v b := fun b hb =>
  ⟨⟨hnew b (by omega), by omega⟩, fun e => by have := (World.ownsRow.lt hrow b e.symm).2; omega⟩

set_option maxRecDepth 100000 in
set_option maxHeartbeats 8000000 in
theorem stir_any (ok : Nat → Prop) (bt : Nat) (t : Tr) (K : List (Int × Int)) (vm : Option Addr) (cm : Nat) (more : List (Int × Int × Int)) (w : World) (hh : HoldsN ok w bt t) (hok : ¬ ok bt) (hnew : ∀ b, w.heap.size ≤ b → ok b) (hgd : Gd K t) (hmore : ∀ x ∈ more, In32 x.1 ∧ (x.1, x.2.1) ∈ K) (hK : K.length ≤ 1099511627776)
    (ha : Arr3 w vm more) (hne : ∀ b o, vm = some ⟨b, o, none⟩ → b ≠ bt) :
    Calls Try.prog 27 #[.pointer (some ⟨bt, 0, none⟩), .slice vm more.length cm] w fun e w' => ∃ a cap, e = .returned (.slice a (allT t).length cap) ∧ Arr3 w' a (allT t) ∧ BelX bt w.heap.size w w' ∧ HoldsN ok w' bt (stirs more t (allT t)) := by
  refine (callsIn_wide (n := 4)).1 ?_
  have HH : Hid (HoldsN ok w bt t) := hh
  have HA : Hid (Arr3 w vm more) := ha
  have HG : Hid (Gd K t) := hgd
  have HM : Hid (∀ x ∈ more, In32 x.1 ∧ (x.1, x.2.1) ∈ K) := hmore
  have hund := und_all hgd.wf
  have hw := hgd.wf
  have hbt := hh.lt
  have hlen0 : (allT t).length ≤ 1099511627776 := Nat.le_trans hgd.len hK
  clear hh ha hgd hmore
  refine callsIn_of_wp_marks Try.func27 rfl trivial ?_ rfl
  simp only [Try.ntmps27, List.size_toArray, List.length_cons, List.length_nil, Nat.reduceAdd, Nat.reduceSub, Array.replicate_succ, Array.replicate_zero, List.push_toArray, List.append_toArray, List.nil_append, List.cons_append]
  gi_wp2
  refine ⟨trivial, ?_⟩
  refine (callsIn_wide.2 (all_any bt _)).mono ?_
  rintro e w1 ⟨rfl, hw1⟩
  simp only [World.size_alloc]
  obtain ⟨g1, g2, g3, g4, g5, hsz, hB0⟩ := five w _ _ _ _ _ w1 hw1
  have cT : w1.cell? ⟨w.heap.size + 1 + 1 + 1, 0, none⟩ = some (.pointer (some ⟨bt, 0, none⟩)) := by simp [World.cell?, g4]
  have c0 : w1.cell? ⟨w.heap.size + 1 + 1 + 1 + 1, 0, none⟩ = some (.int .u32 0) := by simp [World.cell?, g5]
  have c1 : w1.cell? ⟨w.heap.size + 1 + 1 + 1 + 1, 1, none⟩ = some (.int .i64 0) := by simp [World.cell?, g5]
  have HO0 : Hid (∃ v, Ot ok w.heap.size bt (stirs more t []) [] v w1) := by
    refine ⟨_, ⟨⟨g3, RowOf.nil _ _ _⟩, HH.out.keep hB0.size (hB0.block bt hbt) ?_⟩⟩
    exact fun b hb hlt => ⟨⟨⟨hb, by omega⟩, fun e => by simp [Value.ownBlock] at e⟩, hB0.block b hlt⟩
  have HB0 : Hid (Ob w.heap.size bt vm cm more w1) := ⟨⟨by simp [World.cell?, g1], by simp [World.cell?, g2]⟩, HA.out.bel hB0⟩
  clear hw1 g1 g2 g3 g4 g5
  gi_wp2
  obtain ⟨pt, hh1⟩ := HH.out.bel hB0
  have hrep : Rep (fun b => b < w.heap.size ∧ b ≠ bt) w1 t pt := by
    obtain ⟨pt', hh0⟩ := HH.out
    have e1 : pt = pt' := by
      have h1 := (hh0.bel hB0).root
      rw [hh1.root] at h1; simpa using h1
    subst e1
    exact hh0.rep.lt.below hB0 (fun b h => ⟨h.2, fun e => hok (e ▸ h.1)⟩)
  refine wpIn_rangeFunc_ownH rfl (by decide) (gf := 49) rfl trivial (enters_of Try.func49 (by kernel_rfl) rfl)
    (Tuz.under_stops 3 _ _ bt bt w.heap.size t pt 0 0 (by decide) (by decide) w1 cT hh1.root c0 c1 hrep hw hB0.size) BelX.trans (BelX.book hB0.size) (Below.refl _ _) (fun _ => rfl)
    (fun pre W => (((∃ v, Ot ok w.heap.size bt (stirs more t (pre.map nm)) (pre.map nm) v W) ∧ Ob w.heap.size bt vm cm more W) ∧ w.heap.size + 5 ≤ W.heap.size) ∧ BelX bt w.heap.size w W) (fun _ _ _ => False)
    (OwnFrom.and (Own.from (fun s A B row hs hg hr => ⟨⟨by obtain ⟨v, h⟩ := hs.1.1; exact ⟨v, h.own hg hr⟩, hs.1.2.own hg hr⟩, Nat.le_trans hs.2 hg.size⟩) _) (belX_own rfl (by omega)))
    (fun _ _ _ _ _ hs _ _ => hs) ⟨⟨⟨HO0.out, HB0.out⟩, by omega⟩, BelX.of hB0⟩
    (fun y a' W => ∃ Bx, w.heap.size + 5 ≤ Bx ∧ W.heap[Bx]? = some (Obj.cells #[.int .u32 (nm y).1, .int .i64 (nm y).2.1] 33) ∧
      a' = { tmps := #[.pointer (some ⟨bt, 0, none⟩), .slice vm more.length cm, .pointer (some ⟨w.heap.size, 0, none⟩), .pointer (some ⟨w.heap.size + 1, 0, none⟩), .slice none 0 0, .pointer (some ⟨w.heap.size + 1 + 1, 0, none⟩),
        .pointer (some ⟨Bx, 0, none⟩), .int .i64 (nm y).2.2, undef, undef, .pointer (some ⟨bt, 0, none⟩), .func (.func 49) #[] #[.pointer (some ⟨w.heap.size + 1 + 1 + 1, 0, none⟩), .pointer (some ⟨w.heap.size + 1 + 1 + 1 + 1, 0, none⟩)],
        .agg #[.int .u32 (nm y).1, .int .i64 (nm y).2.1], .int .i64 (nm y).2.2, undef, undef, undef, undef, undef, undef, undef, undef, undef, undef, undef, undef, undef, undef, undef, undef, undef, undef, undef, undef, undef, undef, undef], defers := [] })
    (fun y a' s A B row hs hg hr => by
      obtain ⟨Bx, h1, h2, h4⟩ := hs
      exact ⟨Bx, h1, (hg.block Bx (Array.getElem?_eq_some_iff.1 h2).1 (fun e => by obtain ⟨o, ho, hc⟩ := (hr Bx e.symm).2; rw [h2] at ho; cases ho; cases hc)).trans h2, h4⟩) ?assign ?body ?done ?stop
  case assign =>
    rintro l pre y W K2 ⟨⟨⟨⟨v, hi⟩, hb⟩, hs5⟩, hB⟩ hK2
    obtain ⟨z, hz⟩ : ∃ z, nm y = z := ⟨_, rfl⟩
    simp only [hz] at hK2 ⊢
    obtain ⟨za, zn, zv⟩ := z
    dsimp only [enc3]
    gi_wp2
    exact hK2 _ _ ((KeepsOthers.alloc _ _).from _) (BelX.of ((Below.refl _ W).alloc hB.size _)) ⟨⟨⟨⟨v, hi.own (World.grownBy_alloc W _ none) (fun r e => by cases e)⟩, hb.own (World.grownBy_alloc W _ none) (fun r e => by cases e)⟩, by simp; omega⟩, hB.trans (BelX.of ((Below.refl _ W).alloc hB.size _))⟩
      ⟨W.heap.size, hs5, World.alloc_heap_new W _, rfl⟩
  case body =>
    rintro l pre y a' W hl ⟨rr, hrr⟩ ⟨⟨⟨⟨v, hi⟩, hb⟩, hs5⟩, hB⟩ ⟨Bx, hBx, hbx, rfl⟩ hlt
    obtain ⟨z, hz⟩ : ∃ z, nm y = z := ⟨_, rfl⟩
    have hz32 := nm_u32 y
    have hmap : (pre ++ [y]).map nm = pre.map nm ++ [z] := by rw [List.map_append, List.map_singleton, hz]
    have HMAP : Hid ((pre ++ [y]).map nm = pre.map nm ++ [z]) := hmap
    have hpl : (pre.map nm).length = pre.length := List.length_map nm
    rw [hund, ← hpl] at hlt
    clear hpl
    rw [hz] at hbx hz32
    simp only [hz]
    generalize pre.map nm = P at *
    clear hmap hz
    obtain ⟨za, zn, zv⟩ := z
    have HT : Hid (Gd K (stirs more t P)) := Gd.stirs HM.out HG.out
    have hlow : 0 < more.length → ∀ b o, vm = some ⟨b, o, none⟩ → b < w.heap.size := fun h0 b o e => by
      obtain ⟨b', o', e', hlt', -⟩ := HA.out.cells 0 h0
      rw [e] at e'; cases e'; exact hlt'
    have HI : Hid (Ot ok w.heap.size bt (stirs more t P) P v W) := hi
    have HB : Hid (Ob w.heap.size bt vm cm more W) := hb
    have HBX : Hid (W.heap[Bx]? = some (Obj.cells #[.int .u32 za, .int .i64 zn] 33)) := hbx
    have hcv := hi.1.1.cell
    have y0 : W.cell? ⟨Bx, 0, none⟩ = some (.int .u32 za) := by simp [World.cell?, hbx]
    have y1 : W.cell? ⟨Bx, 1, none⟩ = some (.int .i64 zn) := by simp [World.cell?, hbx]
    obtain ⟨i0, hi0, hz0, hz1, hz2⟩ := info_parts infoI
    have hby2 : (P.length + 1) * 24 ≤ 140737488355328 := by omega
    have hn₀ : w.heap.size + 1 + 1 ≤ W.heap.size := by omega
    clear hi hb hbx
    gi_wp2_with (gi_at_builtin; refine wpListIn_append_own_at _ rfl _ _ 38 rfl (w.heap.size + 1 + 1) 43 i0 (.agg #[.int .u32 0, .int .i64 0, .int .i64 0]) 3 24 Try.underlying38 hi0 hz0 hz1 hz2 rfl (by decide) v P.length (encs P) rfl (World.ownsRow.alloc HI.out.1.2 _) ⟨W.heap.size, 0, none⟩ 1 1 [.int .u32 za, .int .i64 zn, .int .i64 zv] rfl rfl (by
      intro j u' hj
      match j, hj with
      | 0, hj => simp at hj; subst hj; simp [Addr.add]
      | 1, hj => simp at hj; subst hj; simp [Addr.add]
      | 2, hj => simp at hj; subst hj; simp [Addr.add]) (by intro u' hu'; simp at hu'; rcases hu' with rfl | rfl | rfl <;> rfl) (by unfold maxLen; omega) hby2 (by simp; omega) ?_)
    intro v' w2 hown' hgrow _ hat
    obtain ⟨hv1, ho2, hk2, hb2⟩ := HI.out.app (y := (za, zn, zv)) hbt hn₀ hown' hgrow hat
    have hbx2 := box_app (s := w.heap.size) (z := (za, zn)) (v' := v') HBX.out hBx HI.out.1.2 hgrow
    obtain ⟨g', cap', rfl⟩ := ownsRow_succ hown'
    have hob2 := HB.out.app (bt := bt) hlow hb2
    have hc1 := hv1.cell
    have hf1 := hv1.frozen
    clear hown' hgrow hat hcv y0 y1
    obtain ⟨W2, hW2⟩ : ∃ W2, w2.setCell ⟨w.heap.size + 1 + 1, 0, none⟩ (.slice (some ⟨g', 0, none⟩) (P.length + 1) cap') = W2 := ⟨_, rfl⟩
    rw [hW2] at ho2 hk2 hb2 hbx2 hob2
    have c2 := hob2.1.1
    have y0 : W2.cell? ⟨Bx, 0, none⟩ = some (.int .u32 za) := by simp [World.cell?, hbx2]
    have y1 : W2.cell? ⟨Bx, 1, none⟩ = some (.int .i64 zn) := by simp [World.cell?, hbx2]
    gi_wp2
    refine ⟨trivial, ?_⟩
    have hs2 : w.heap.size + 5 ≤ W2.heap.size := Nat.le_trans hs5 hb2.size
    refine (CallsIn.inRound l (callsIn_wide.2 (drop_n (okv ok (w.heap.size + 1 + 1) (.slice (some ⟨g', 0, none⟩) (P.length + 1) cap')) bt (stirs more t P) za zn W2 ho2.2 (fun h => hok h.1.1) (okv_new hnew hs2 ho2.1.2) HT.out.wf hz32.1 hz32.2 (Nat.le_trans HT.out.len hK)))).mono ?_
    rintro e W3 ht
    have hot3 := ho2.turn hbt ht
    have hbut := ht.2.1
    obtain ⟨rfl, -, -⟩ := ht
    have HSJ : Hid (Sj ok w.heap.size bt (del (stirs more t P) za zn).1 (P ++ [(za, zn, zv)]) (.slice (some ⟨g', 0, none⟩) (P.length + 1) cap') vm cm more W 0 W3) :=
      ⟨hot3, hob2.turn hbt hne hbut, Nat.le_trans hs2 hbut.size, (BelX.of (hb2.mono (by omega))).trans (belX_of_but (by omega) hbut), (hk2.from _).trans (keeps_but hbut (by omega))⟩
    have HTD : Hid (Gd K (del (stirs more t P) za zn).1) := HT.out.del
    have HST : Hid (stirs more t (P ++ [(za, zn, zv)]) = putAll (del (stirs more t P) za zn).1 more) := stirs_snoc more t P (za, zn, zv)
    clear hot3 hbut ho2 hob2 hk2 hb2 hbx2 c2 y0 y1 hc1 hf1 hW2 hv1
    generalize (del (stirs more t P) za zn).1 = TD at *
    generalize Value.slice (some ⟨g', 0, none⟩) (P.length + 1) cap' = vl at *
    have c3 := HSJ.out.ob.1.2
    obtain ⟨m, hm⟩ : ∃ m, more.length = m := ⟨_, rfl⟩
    have HLM : Hid (more.length = m) := hm
    have hml := HA.out.small
    rw [hm] at c3 hml
    simp only [hm]
    clear hm
    gi_wp2
    gi_loopw [25] (fun i wr => ∃ j : Nat, j ≤ m ∧ i = .int .i64 (j : Int) ∧ Sj ok w.heap.size bt TD (P ++ [(za, zn, zv)]) vl vm cm more W j wr) (fun i _ => m - (intOf i).toNat)
    case atStart => exact ⟨0, by omega, rfl, HSJ.out⟩
    case round =>
      obtain ⟨j, hj, rfl, hsj⟩ := hrel
      have SJ : Hid (Sj ok w.heap.size bt TD (P ++ [(za, zn, zv)]) vl vm cm more W j wr) := hsj
      clear hsj c3
      by_cases hjm : j < m
      · have hjd : j < more.length := by rw [HLM.out]; exact hjm
        obtain ⟨b, o, e, hbl, d0, d1, d2⟩ := SJ.out.ob.2.cells j hjd
        subst e
        have hx := HM.out more[j] (List.getElem_mem hjd)
        have HX : Hid (In32 more[j].1 ∧ (more[j].1, more[j].2.1) ∈ K) := hx
        obtain ⟨x, hxe⟩ : ∃ x, more[j] = x := ⟨_, rfl⟩
        have HXE : Hid (more[j] = x) := hxe
        rw [hxe] at d0 d1 d2 hx
        obtain ⟨xa, xn, xv⟩ := x
        have hkk : (j : Int) < m := by omega
        have kk0 : (0 : Int) ≤ j := by omega
        clear hxe
        have hbA : Below wr.heap.size wr (wr.alloc (Obj.cells #[.int .u32 xa, .int .i64 xn, .int .i64 xv] 43)) := (Below.refl _ wr).alloc (Nat.le_refl _) _
        have SJA : Hid (Sj ok w.heap.size bt TD (P ++ [(za, zn, zv)]) vl (some ⟨b, o, none⟩) cm more W j (wr.alloc (Obj.cells #[.int .u32 xa, .int .i64 xn, .int .i64 xv] 43))) := SJ.out.alloc hbA
        have e0 := SJA.out.ob.1.1
        clear hbA
        gi_wp2
        refine ⟨trivial, ?_⟩
        have hgj : Gd K (putAll TD (more.take j)) := HTD.out.putAll (fun y hy => HM.out y (List.mem_of_mem_take hy))
        refine (CallsIn.inRound l (callsIn_wide.2 (put_n (okv ok (w.heap.size + 1 + 1) vl) bt (putAll TD (more.take j)) xa xn xv _ SJA.out.ot.2 (fun h => hok h.1.1) (okv_new hnew SJA.out.size SJA.out.ot.1.2) hgj.wf hgj.bz hx.1.1 hx.1.2 (Nat.le_trans hgj.len hK)))).mono ?_
        rintro e W4 ht
        have hsj4 := SJA.out.next hbt hne hjd (by rw [HXE.out]; exact ht)
        have SJ4 : Hid (Sj ok w.heap.size bt TD (P ++ [(za, zn, zv)]) vl (some ⟨b, o, none⟩) cm more W (j + 1) W4) := hsj4
        obtain ⟨rfl, -, -⟩ := ht
        clear hsj4 SJA SJ e0 d0 d1 d2
        gi_wp2
        go_roundw
        case rel => exact ⟨j + 1, by omega, by simp, SJ4.out⟩
        case measure => simp [intOf]; omega
      · obtain rfl : j = m := by omega
        gi_wp2
        have hsj := SJ.out
        have htk : more.take j = more := List.take_of_length_le (by rw [HLM.out]; exact Nat.le_refl _)
        refine ⟨by rw [hsz]; exact hsj.keeps, hsj.bel, ⟨⟨⟨vl, ?_⟩, hsj.ob⟩, hsj.size⟩, hB.trans hsj.bel⟩
        have h1 := hsj.ot
        rw [htk, ← HST.out] at h1
        rw [HMAP.out]; exact h1
  case done =>
    rintro D ys W hD rfl ⟨⟨⟨⟨v, hi⟩, hb⟩, hs5⟩, hB⟩ hK2
    have hmp : (und t 0 0).map nm = allT t := by
      rw [hund]
      conv => rhs; rw [← List.map_id (allT t)]
      exact List.map_congr_left (fun y hy => nm_is (all_u32 hw y hy))
    rw [hmp] at hi
    have HI : Hid (Ot ok w.heap.size bt (stirs more t (allT t)) (allT t) v W) := hi
    obtain ⟨⟨hv, hrow⟩, hh2⟩ := hi
    obtain ⟨ra, rc, hve, harr, -⟩ := arr_of_own hrow (all_u32 hw)
    subst hve
    have hcv := hv.cell
    have HARR : Hid (Arr3 (W.putObj D (.deferred none)) ra (allT t)) := by
      obtain ⟨ra', rc', hve', harr', -⟩ := arr_of_own (row_own hrow (grownBy_putObj' W D (.deferred none)) (fun r e => by cases e; exact ⟨_, hK2, rfl⟩)) (all_u32 hw)
      cases hve'; exact harr'
    have HHN : Hid (HoldsN ok (W.putObj D (.deferred none)) bt (stirs more t (allT t))) := by
      refine (hh2.own (grownBy_putObj' W D (.deferred none)) (fun r e => by cases e; exact ⟨_, hK2, rfl⟩)).keep (Nat.le_refl _) rfl (fun b hb _ => ⟨hb.1.1, rfl⟩)
    have HBX : Hid (BelX bt w.heap.size w (W.putObj D (.deferred none))) := hB.trans (BelX.of (belowK_b (w := w) (Nat.le_refl _) W D _ _ (by omega) hK2 rfl rfl))
    clear hrow harr hh2 hv
    gi_wp2
    refine ⟨by simp, .inl ⟨_, _, rfl, run_takeDeferred hK2, ?_⟩⟩
    exact ⟨_, results_tmp rfl _ _ _, ra, rc, rfl, HARR.out, HBX.out, HHN.out⟩
  case stop =>
    rintro D c pre W _ _ h _
    exact h.elim
end Go.Proofs.Ytibmhdfodmkahaa.Tu
