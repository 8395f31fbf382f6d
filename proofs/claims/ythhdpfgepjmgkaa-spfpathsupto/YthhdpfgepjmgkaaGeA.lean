/- Lists of any kind of item, in memory. -/
import Derived.Test.YthhdpfgepjmgkaaProg
import Derived.OwnWalk
import Derived.Laws.AppendOwnNone
import Derived.Laws.Rows
import Derived.Maps.AppendAt
import Derived.RowKit
import Derived.Below
import Derived.Lib.SmallJoins
import Derived.RangeFuncOwn
import Derived.WalkKit
import Derived.ProofKit
namespace Go.Proofs.Ythhdpfgepjmgkaa.Ge
open Go.ChangeShapes Go.WideShapes Go.ChangeAt Go.RowKit Go.Joins
set_option linter.unusedVariables false

/-- a kind of item: its types, and the cells of one -/
structure El (α : Type) where
  e : TypeId
  t : TypeId
  k : Nat
  bytes : Nat
  z : Value
  enc : α → List Value
  hk : 0 < k
  hb : bytes ≤ 128
  hlen : ∀ x, (enc x).length = k
  hone : ∀ x, ∀ u ∈ enc x, u.oneCell' = true
  ht : Try.prog.underlying t = some (.slice e)
  hi : (Try.prog.info? e).map (fun i => (i.zero, i.size, i.bytes)) = some (some z, k, bytes)
  hz : z.cells.size = k
theorem info_of {e : TypeId} {z : Value} {k b : Nat} (h : (Try.prog.info? e).map (fun i => (i.zero, i.size, i.bytes)) = some (some z, k, b)) : ∃ i, Try.prog.info? e = some i ∧ i.zero = some z ∧ i.size = k ∧ i.bytes = b := by
  cases hi : Try.prog.info? e with
  | none => rw [hi] at h; cases h
  | some i =>
    rw [hi] at h
    simp at h
    exact ⟨i, rfl, h.1, h.2.1, h.2.2⟩
section
variable {α : Type} (E : El α)
def El.cs (xs : List α) : List Value := xs.flatMap E.enc
theorem cs_len (xs : List α) : (E.cs xs).length = xs.length * E.k := by
  induction xs with
  | nil => simp [El.cs]
  | cons x xs ih => unfold El.cs at ih ⊢; rw [List.flatMap_cons, List.length_append, ih, E.hlen, List.length_cons, Nat.add_mul, Nat.one_mul, Nat.add_comm]
theorem cs_app (xs ys : List α) : E.cs (xs ++ ys) = E.cs xs ++ E.cs ys := List.flatMap_append
theorem cs_one (xs : List α) : ∀ u ∈ E.cs xs, u.oneCell' = true := by
  intro u hu
  simp only [El.cs, List.mem_flatMap] at hu
  obtain ⟨x, -, hx⟩ := hu
  exact E.hone x u hx
theorem cs_at : ∀ (xs : List α) (i : Nat) (h : i < xs.length) (j : Nat), j < E.k → (E.cs xs)[i * E.k + j]? = (E.enc xs[i])[j]?
  | x :: xs, 0, _, j, hj => by
    have e0 : E.cs (x :: xs) = E.enc x ++ E.cs xs := rfl
    rw [e0, List.getElem?_append_left (by rw [E.hlen]; omega)]
    simp
  | x :: xs, i + 1, h, j, hj => by
    have e0 : E.cs (x :: xs) = E.enc x ++ E.cs xs := rfl
    have e1 : (i + 1) * E.k + j = E.k + (i * E.k + j) := by rw [Nat.add_mul, Nat.one_mul]; omega
    rw [e0, e1, List.getElem?_append_right (by rw [E.hlen]; omega), E.hlen, Nat.add_sub_cancel_left, cs_at xs i (by simpa using h) j hj]
    simp
/-- a list that lies somewhere -/
structure Lst (w : World) (a : Option Addr) (xs : List α) : Prop where
  small : xs.length ≤ 9223372036854775807
  cells : ∀ i (h : i < xs.length), ∃ b o, a = some ⟨b, o, none⟩ ∧ b < w.heap.size ∧ ∀ j, j < E.k → w.cell? ⟨b, o + i * E.k + j, none⟩ = (E.enc xs[i])[j]?
/-- a list that the call has made -/
structure OwnL (N : Nat) (w : World) (v : Value) (xs : List α) : Prop where
  row : w.ownsRow N E.e E.k v xs.length (E.cs xs)
variable {E} {N N' : Nat} {w w' : World} {v : Value} {xs : List α} {a : Option Addr}
theorem Lst.keep (h : Lst E w a xs) (hs : w.heap.size ≤ w'.heap.size) (hk : ∀ b o, a = some ⟨b, o, none⟩ → b < w.heap.size → w'.heap[b]? = w.heap[b]?) : Lst E w' a xs :=
  ⟨h.small, fun i hi => by
    obtain ⟨b, o, e, hl, hc⟩ := h.cells i hi
    exact ⟨b, o, e, Nat.lt_of_lt_of_le hl hs, fun j hj => (World.cell?_of_block (w := w) (hk b o e hl)).trans (hc j hj)⟩⟩
theorem Lst.bel (h : Lst E w a xs) (hb : Below w.heap.size w w') : Lst E w' a xs := h.keep hb.size (fun b _ _ hl => hb.block b hl)
theorem Lst.take (h : Lst E w a xs) (n : Nat) : Lst E w a (xs.take n) :=
  ⟨by rw [List.length_take]; have := h.small; omega, fun i hi => by
    rw [List.length_take] at hi
    obtain ⟨b, o, e, hl, hc⟩ := h.cells i (by omega)
    exact ⟨b, o, e, hl, fun j hj => by rw [hc j hj, List.getElem_take]⟩⟩
theorem Lst.drop {b o : Nat} (h : Lst E w (some ⟨b, o, none⟩) xs) (n : Nat) : Lst E w (some ⟨b, o + n * E.k, none⟩) (xs.drop n) :=
  ⟨by rw [List.length_drop]; have := h.small; omega, fun i hi => by
    rw [List.length_drop] at hi
    obtain ⟨b', o', e, hl, hc⟩ := h.cells (n + i) (by omega)
    cases e
    refine ⟨b, o + n * E.k, rfl, hl, fun j hj => ?_⟩
    have h2 := hc j hj
    rw [Nat.add_mul, ← Nat.add_assoc] at h2
    rw [h2, List.getElem_drop]⟩
theorem OwnL.blk (h : OwnL E N w v xs) (hb : ∀ g, v.ownBlock = some g → w'.heap[g]? = w.heap[g]?) : OwnL E N w' v xs := by
  refine ⟨h.row.1, ?_⟩
  rcases h.row.2 with h1 | ⟨g', cap', cur, h1, h2, h3, h4⟩
  · exact .inl h1
  · exact .inr ⟨g', cap', cur, h1, h2, (hb g' (by rw [h1]; rfl)).trans h3, h4⟩
theorem OwnL.bel (h : OwnL E N w v xs) (hb : Below w.heap.size w w') : OwnL E N w' v xs := h.blk (fun g e => hb.block g (h.row.lt g e).2)
theorem OwnL.mono (h : OwnL E N w v xs) (hn : N' ≤ N) : OwnL E N' w v xs := by
  refine ⟨h.row.1, ?_⟩
  rcases h.row.2 with h1 | ⟨g', cap', cur, h1, h2, h3⟩
  · exact .inl h1
  · exact .inr ⟨g', cap', cur, h1, Nat.le_trans hn h2, h3⟩
theorem OwnL.grown {o : Option Nat} (h : OwnL E N w v xs) (hg : w.grownBy w' o) (ho : ∀ g, v.ownBlock = some g → ¬ o = some g) : OwnL E N w' v xs :=
  h.blk (fun g e => hg.block g (h.row.lt g e).2 (fun e2 => ho g e e2.symm))
theorem OwnL.nil (E : El α) (N : Nat) (w : World) : OwnL E N w (.slice none 0 0) [] := ⟨World.ownsRow_nil _ _ _ _⟩
theorem OwnL.form (h : OwnL E N w v xs) : ∃ a c, v = .slice a xs.length c ∧ xs.length ≤ c ∧ (a = none → xs.length = 0 ∧ c = 0) ∧ (∀ b o, a = some ⟨b, o, none⟩ → o = 0 ∧ N ≤ b ∧ b < w.heap.size) := by
  rcases h.row.2 with ⟨h1, h2⟩ | ⟨g, c, cur, h1, h2, h3, h4, h5⟩
  · exact ⟨none, 0, by rw [h1, h2], by omega, fun _ => ⟨h2, rfl⟩, fun b o e => by cases e⟩
  · exact ⟨_, c, h1, h4, (fun e => by cases e), fun b o e => by cases e; exact ⟨rfl, h2, (Array.getElem?_eq_some_iff.1 h3).1⟩⟩
theorem OwnL.lst {n cap : Nat} (h : OwnL E N w (.slice a n cap) xs) : Lst E w a xs ∧ xs.length = n := by
  rcases h.row.2 with ⟨h1, h2⟩ | ⟨g, c, cur, h1, h2, h3, h4, h5, h6⟩
  · cases h1
    exact ⟨⟨by omega, fun i hi => absurd hi (by omega)⟩, h2⟩
  · cases h1
    refine ⟨⟨by unfold maxLen at h5; omega, fun i hi => ⟨g, 0, rfl, (Array.getElem?_eq_some_iff.1 h3).1, fun j hj => ?_⟩⟩, rfl⟩
    have hlt : i * E.k + j < xs.length * E.k := by
      have h8 : i * E.k + E.k ≤ xs.length * E.k := by rw [← Nat.succ_mul]; exact Nat.mul_le_mul_right _ hi
      omega
    rw [Nat.zero_add, h.row.cellAt _ (by omega)]
    exact cs_at E xs i hi j hj
theorem OwnL.at0 {n cap : Nat} {g : Nat} (h : OwnL E N w (.slice (some ⟨g, 0, none⟩) n cap) xs) : (∀ i (hi : i < xs.length) j, j < E.k → w.cell? ⟨g, i * E.k + j, none⟩ = (E.enc xs[i])[j]?) ∧ (∀ i, w.frozen? ⟨g, i, none⟩ = false) ∧ g < w.heap.size ∧ N ≤ g := by
  rcases h.row.2 with ⟨h1, h2⟩ | ⟨g', c, cur, h1, h2, h3, h4, h5, h6⟩
  · cases h1
  · have hl := h.lst.1
    cases h1
    refine ⟨fun i hi j hj => ?_, fun i => by simp [World.frozen?, h3], (Array.getElem?_eq_some_iff.1 h3).1, h2⟩
    obtain ⟨b, o, e, -, hc⟩ := hl.cells i hi
    cases e
    have := hc j hj
    rw [Nat.zero_add] at this
    exact this
theorem cs_set (E : El α) (u : Value) (y : α) (j : Nat) (hj : j < E.k) : ∀ (xs : List α) (i : Nat) (h : i < xs.length), E.enc y = (E.enc xs[i]).set j u → E.cs (xs.set i y) = (E.cs xs).set (i * E.k + j) u
  | x :: xs, 0, _, hy => by
    have e0 : ∀ z zs, E.cs (z :: zs) = E.enc z ++ E.cs zs := fun _ _ => rfl
    simp at hy
    rw [List.set_cons_zero, e0, e0, hy, Nat.zero_mul, Nat.zero_add, List.set_append, if_pos (by rw [E.hlen]; exact hj)]
  | x :: xs, i + 1, h, hy => by
    have e0 : ∀ z zs, E.cs (z :: zs) = E.enc z ++ E.cs zs := fun _ _ => rfl
    have e1 : (i + 1) * E.k + j = E.k + (i * E.k + j) := by rw [Nat.add_mul, Nat.one_mul]; omega
    rw [List.set_cons_succ, e0, e0, cs_set E u y j hj xs i (by simpa using h) (by simpa using hy), e1, List.set_append, if_neg (by rw [E.hlen]; omega), E.hlen, Nat.add_sub_cancel_left]
/-- one cell of an item is turned -/
theorem OwnL.setc {n cap g i j : Nat} (h : OwnL E N w (.slice (some ⟨g, 0, none⟩) n cap) xs) (hi : i < xs.length) (hj : j < E.k) (u : Value) (y : α) (hy : E.enc y = (E.enc xs[i]).set j u) : OwnL E N (w.setCell ⟨g, i * E.k + j, none⟩ u) (.slice (some ⟨g, 0, none⟩) n cap) (xs.set i y) := by
  rcases h.row.2 with ⟨h1, h2⟩ | ⟨g', c, cur, h1, h2, h3, h4, h5, h6, h7⟩
  · cases h1
  · cases h1
    refine ⟨by rw [cs_len], .inr ⟨g, cap, cur.setIfInBounds (i * E.k + j) u, by rw [List.length_set], h2, heap_setCell_same w g _ cur _ u h3, by rw [List.length_set]; exact h4, h5, by simpa using h6, ?_⟩⟩
    rw [List.length_set, cs_set E u y j hj xs i hi hy, ← h7, Array.toList_setIfInBounds]
    exact List.take_set
/-- one item, just built, is appended -/
theorem list_app1 {ops : Array Oper} {rest : List Oper} {o : Oper} {ac : Act} {Q : Exit → Act → World → Prop} (E : El α) (hgd : o.guard = none) (s x : Operand) (t : TypeId) (htt : t = E.t)
    (ho : o.op = .call { callee := .builtin .append, args := #[s, x], argTypes := #[t, t] }) (N : Nat) (v : Value) (xs : List α) (y : α) (hbig : xs.length ≤ 1099511627775) {w : World} (W : World) (hs : ac.eval s = v) (hown : OwnL E N W v xs)
    (hx : ac.eval x = .slice (some ⟨w.heap.size, 0, none⟩) 1 1) (hN : N ≤ W.heap.size) (hW : W = w.alloc (Obj.cells (E.enc y).toArray E.e))
    (h : ∀ v' w', Hid (OwnL E N w' v' (xs ++ [y])) → Hid (W.grownBy w' v.ownBlock) → Hid (v'.ownBlock = v.ownBlock ∨ v'.ownBlock = some W.heap.size) → wpList Try.prog ops Q rest (ac.put o.dst v') w') :
    wpList Try.prog ops Q (o :: rest) ac W := by
  subst htt
  obtain ⟨i0, hi, hz0, hz1, hz2⟩ := info_of E.hi
  have hnew : W.heap[w.heap.size]? = some (Obj.cells (E.enc y).toArray E.e) := by rw [hW]; exact World.alloc_heap_new w _
  have e1 : E.cs [y] = E.enc y := by simp [El.cs]
  refine wpList_append_own_at _ hgd s x E.t ho N E.e i0 E.z E.k E.bytes E.ht hi hz0 hz1 hz2 E.hz E.hk v xs.length (E.cs xs) hs hown.row ⟨w.heap.size, 0, none⟩ 1 1 (E.cs [y]) hx (cs_len E _) ?_ (cs_one E _) (by unfold maxLen; omega) (Nat.le_trans (Nat.mul_le_mul_left _ E.hb) (by omega)) hN ?_
  · intro j u hj
    rw [e1] at hj
    rw [Addr.add_lit, Nat.zero_add]
    simp [World.cell?, hnew, hj]
  · intro v' w' h2 h3 _ h5
    exact h v' w' ⟨by rw [cs_app, List.length_append]; exact h2⟩ h3 h5
/-- a list that lies somewhere is appended -/
theorem list_appL {ops : Array Oper} {rest : List Oper} {o : Oper} {ac : Act} {Q : Exit → Act → World → Prop} (E : El α) (hgd : o.guard = none) (s x : Operand) (t : TypeId) (htt : t = E.t)
    (ho : o.op = .call { callee := .builtin .append, args := #[s, x], argTypes := #[t, t] }) (N : Nat) (v : Value) (xs ys : List α) (va : Option Addr) (n cap : Nat) (W : World) (hbig : xs.length + n ≤ 1099511627775) (hs : ac.eval s = v) (hown : OwnL E N W v xs)
    (hx : ac.eval x = .slice va n cap) (hsrc : Lst E W va ys) (hnil : va = none → n = 0 ∧ cap = 0) (hn : ys.length = n) (hN : N ≤ W.heap.size)
    (h : ∀ v' w', Hid (OwnL E N w' v' (xs ++ ys)) → Hid (W.grownBy w' v.ownBlock) → Hid (v'.ownBlock = v.ownBlock ∨ v'.ownBlock = some W.heap.size) → wpList Try.prog ops Q rest (ac.put o.dst v') w') :
    wpList Try.prog ops Q (o :: rest) ac W := by
  subst htt
  obtain ⟨i0, hi, hz0, hz1, hz2⟩ := info_of E.hi
  cases va with
  | none =>
    obtain ⟨rfl, rfl⟩ := hnil rfl
    have e0 : ys = [] := List.length_eq_zero_iff.1 hn
    subst e0
    refine wpList_append_own_none hgd s x E.t ho N E.e i0 E.k E.ht hi v xs.length (E.cs xs) hs hown.row hx ?_
    exact h v W (by rw [List.append_nil]; exact hown) ⟨rfl, rfl, rfl, Nat.le_refl _, fun _ _ _ => rfl⟩ (Or.inl rfl)
  | some ad =>
    refine wpList_append_own_at _ hgd s x E.t ho N E.e i0 E.z E.k E.bytes E.ht hi hz0 hz1 hz2 E.hz E.hk v xs.length (E.cs xs) hs hown.row ad n cap (E.cs ys) hx (by rw [cs_len, hn]) ?_ (cs_one E _) (by unfold maxLen; omega) (Nat.le_trans (Nat.mul_le_mul_left _ E.hb) (by omega)) hN ?_
    · intro j u hj
      have hlt : j < ys.length * E.k := by
        have := (List.getElem?_eq_some_iff.1 hj).1
        rw [cs_len] at this; exact this
      have hk := E.hk
      have hq : j / E.k < ys.length := (Nat.div_lt_iff_lt_mul hk).2 hlt
      have hr : j % E.k < E.k := Nat.mod_lt _ hk
      have hdm : j / E.k * E.k + j % E.k = j := by rw [Nat.mul_comm]; exact Nat.div_add_mod j E.k
      obtain ⟨b, o', e, -, hc⟩ := hsrc.cells (j / E.k) hq
      cases e
      rw [Addr.add_lit]
      have h2 := hc (j % E.k) hr
      rw [Nat.add_assoc, hdm] at h2
      rw [h2, ← cs_at E ys (j / E.k) hq (j % E.k) hr, hdm]
      exact hj
    · intro v' w' h2 h3 _ h5
      exact h v' w' ⟨by rw [cs_app, List.length_append, hn]; exact h2⟩ h3 h5
/-- a list that was just made -/
theorem own_made (E : El α) {W W' : World} (xs : List α) (n : Nat) (hn : xs.length = n) (hs : n ≤ 1099511627775) (h : W.alloc (Obj.cells (E.cs xs).toArray E.e) = W') : OwnL E W.heap.size W' (.slice (some ⟨W.heap.size, 0, none⟩) n n) xs ∧ Below W.heap.size W W' := by
  subst h hn
  refine ⟨⟨cs_len E xs, .inr ⟨W.heap.size, xs.length, (E.cs xs).toArray, rfl, Nat.le_refl _, World.alloc_heap_new W _, Nat.le_refl _, by unfold maxLen; omega, by simp [cs_len], ?_⟩⟩, (Below.refl _ W).alloc (Nat.le_refl _) _⟩
  rw [← cs_len E xs]
  simp
/-- a list of none that was just made -/
theorem own_made0 (E : El α) {W W' : World} (h : W.alloc (Obj.cells #[] E.e) = W') : OwnL E W.heap.size W' (.slice (some ⟨W.heap.size, 0, none⟩) 0 0) [] ∧ Below W.heap.size W W' := by
  subst h
  exact ⟨⟨by simp [El.cs], .inr ⟨W.heap.size, 0, #[], rfl, Nat.le_refl _, World.alloc_heap_new W _, Nat.le_refl _, by unfold maxLen; omega, by simp, by simp [El.cs]⟩⟩, (Below.refl _ W).alloc (Nat.le_refl _) _⟩
end
end Go.Proofs.Ythhdpfgepjmgkaa.Ge
