/- Lists of items that may be long, in memory. Two messages that tell the same: routeSame, pvSame. PvOnly answers true. -/
import Derived.Test.YtghlgkpfcpcopaaProg
import Derived.OwnWalk
import Derived.Laws.AppendOwnNone
import Derived.Laws.Rows
import Derived.Maps.AppendAt
import Derived.RowKit
import Derived.Below
import Derived.Lib.SmallJoins
import Derived.RangeFuncOwn
import Derived.WalkKit
import Derived.ProofKit
import Derived.Test.YtghlgkpfcpcopaaPwR
import Derived.Test.YtghlgkpfcpcopaaMgA
namespace Go.Proofs.Ytghlgkpfcpcopaa.Gm
open Go.ChangeShapes Go.WideShapes Go.ChangeAt Go.RowKit Go.Joins
set_option linter.unusedVariables false

/-- a kind of item: its types, and the cells of one -/
structure El (α : Type) where
  e : TypeId
  t : TypeId
  k : Nat
  bytes : Nat
  z : Value
  enc : α → List Value
  hk : 0 < k
  hb : bytes ≤ 1024
  hlen : ∀ x, (enc x).length = k
  hone : ∀ x, ∀ u ∈ enc x, u.oneCell' = true
  ht : Try.prog.underlying t = some (.slice e)
  hi : (Try.prog.info? e).map (fun i => (i.zero, i.size, i.bytes)) = some (some z, k, bytes)
  hz : z.cells.size = k
theorem info_of {e : TypeId} {z : Value} {k b : Nat} (h : (Try.prog.info? e).map (fun i => (i.zero, i.size, i.bytes)) = some (some z, k, b)) : ∃ i, Try.prog.info? e = some i ∧ i.zero = some z ∧ i.size = k ∧ i.bytes = b := by
  cases hi : Try.prog.info? e with
  | none => rw [hi] at h; cases h
  | some i =>
    rw [hi] at h
    simp at h
    exact ⟨i, rfl, h.1, h.2.1, h.2.2⟩
section
variable {α : Type} (E : El α)
def El.cs (xs : List α) : List Value := xs.flatMap E.enc
theorem cs_len (xs : List α) : (E.cs xs).length = xs.length * E.k := by
  induction xs with
  | nil => simp [El.cs]
  | cons x xs ih => unfold El.cs at ih ⊢; rw [List.flatMap_cons, List.length_append, ih, E.hlen, List.length_cons, Nat.add_mul, Nat.one_mul, Nat.add_comm]
theorem cs_app (xs ys : List α) : E.cs (xs ++ ys) = E.cs xs ++ E.cs ys := List.flatMap_append
theorem cs_one (xs : List α) : ∀ u ∈ E.cs xs, u.oneCell' = true := by
  intro u hu
  simp only [El.cs, List.mem_flatMap] at hu
  obtain ⟨x, -, hx⟩ := hu
  exact E.hone x u hx
theorem cs_at : ∀ (xs : List α) (i : Nat) (h : i < xs.length) (j : Nat), j < E.k → (E.cs xs)[i * E.k + j]? = (E.enc xs[i])[j]?
  | x :: xs, 0, _, j, hj => by
    have e0 : E.cs (x :: xs) = E.enc x ++ E.cs xs := rfl
    rw [e0, List.getElem?_append_left (by rw [E.hlen]; omega)]
    simp
  | x :: xs, i + 1, h, j, hj => by
    have e0 : E.cs (x :: xs) = E.enc x ++ E.cs xs := rfl
    have e1 : (i + 1) * E.k + j = E.k + (i * E.k + j) := by rw [Nat.add_mul, Nat.one_mul]; omega
    rw [e0, e1, List.getElem?_append_right (by rw [E.hlen]; omega), E.hlen, Nat.add_sub_cancel_left, cs_at xs i (by simpa using h) j hj]
    simp
/-- a list that lies somewhere -/
structure Lst (w : World) (a : Option Addr) (xs : List α) : Prop where
  small : xs.length ≤ 9223372036854775807
  cells : ∀ i (h : i < xs.length), ∃ b o, a = some ⟨b, o, none⟩ ∧ b < w.heap.size ∧ ∀ j, j < E.k → w.cell? ⟨b, o + i * E.k + j, none⟩ = (E.enc xs[i])[j]?
/-- a list that the call has made -/
structure OwnL (N : Nat) (w : World) (v : Value) (xs : List α) : Prop where
  row : w.ownsRow N E.e E.k v xs.length (E.cs xs)
variable {E} {N N' : Nat} {w w' : World} {v : Value} {xs : List α} {a : Option Addr}
theorem Lst.keep (h : Lst E w a xs) (hs : w.heap.size ≤ w'.heap.size) (hk : ∀ b o, a = some ⟨b, o, none⟩ → b < w.heap.size → w'.heap[b]? = w.heap[b]?) : Lst E w' a xs :=
  ⟨h.small, fun i hi => by
    obtain ⟨b, o, e, hl, hc⟩ := h.cells i hi
    exact ⟨b, o, e, Nat.lt_of_lt_of_le hl hs, fun j hj => (World.cell?_of_block (w := w) (hk b o e hl)).trans (hc j hj)⟩⟩
theorem Lst.bel (h : Lst E w a xs) (hb : Below w.heap.size w w') : Lst E w' a xs := h.keep hb.size (fun b _ _ hl => hb.block b hl)
theorem Lst.take (h : Lst E w a xs) (n : Nat) : Lst E w a (xs.take n) :=
  ⟨by rw [List.length_take]; have := h.small; omega, fun i hi => by
    rw [List.length_take] at hi
    obtain ⟨b, o, e, hl, hc⟩ := h.cells i (by omega)
    exact ⟨b, o, e, hl, fun j hj => by rw [hc j hj, List.getElem_take]⟩⟩
theorem Lst.drop {b o : Nat} (h : Lst E w (some ⟨b, o, none⟩) xs) (n : Nat) : Lst E w (some ⟨b, o + n * E.k, none⟩) (xs.drop n) :=
  ⟨by rw [List.length_drop]; have := h.small; omega, fun i hi => by
    rw [List.length_drop] at hi
    obtain ⟨b', o', e, hl, hc⟩ := h.cells (n + i) (by omega)
    cases e
    refine ⟨b, o + n * E.k, rfl, hl, fun j hj => ?_⟩
    have h2 := hc j hj
    rw [Nat.add_mul, ← Nat.add_assoc] at h2
    rw [h2, List.getElem_drop]⟩
theorem OwnL.blk (h : OwnL E N w v xs) (hb : ∀ g, v.ownBlock = some g → w'.heap[g]? = w.heap[g]?) : OwnL E N w' v xs := by
  refine ⟨h.row.1, ?_⟩
  rcases h.row.2 with h1 | ⟨g', cap', cur, h1, h2, h3, h4⟩
  · exact .inl h1
  · exact .inr ⟨g', cap', cur, h1, h2, (hb g' (by rw [h1]; rfl)).trans h3, h4⟩
theorem OwnL.bel (h : OwnL E N w v xs) (hb : Below w.heap.size w w') : OwnL E N w' v xs := h.blk (fun g e => hb.block g (h.row.lt g e).2)
theorem OwnL.mono (h : OwnL E N w v xs) (hn : N' ≤ N) : OwnL E N' w v xs := by
  refine ⟨h.row.1, ?_⟩
  rcases h.row.2 with h1 | ⟨g', cap', cur, h1, h2, h3⟩
  · exact .inl h1
  · exact .inr ⟨g', cap', cur, h1, Nat.le_trans hn h2, h3⟩
theorem OwnL.grown {o : Option Nat} (h : OwnL E N w v xs) (hg : w.grownBy w' o) (ho : ∀ g, v.ownBlock = some g → ¬ o = some g) : OwnL E N w' v xs :=
  h.blk (fun g e => hg.block g (h.row.lt g e).2 (fun e2 => ho g e e2.symm))
theorem OwnL.nil (E : El α) (N : Nat) (w : World) : OwnL E N w (.slice none 0 0) [] := ⟨World.ownsRow_nil _ _ _ _⟩
theorem OwnL.form (h : OwnL E N w v xs) : ∃ a c, v = .slice a xs.length c ∧ xs.length ≤ c ∧ (a = none → xs.length = 0 ∧ c = 0) ∧ (∀ b o, a = some ⟨b, o, none⟩ → o = 0 ∧ N ≤ b ∧ b < w.heap.size) := by
  rcases h.row.2 with ⟨h1, h2⟩ | ⟨g, c, cur, h1, h2, h3, h4, h5⟩
  · exact ⟨none, 0, by rw [h1, h2], by omega, fun _ => ⟨h2, rfl⟩, fun b o e => by cases e⟩
  · exact ⟨_, c, h1, h4, (fun e => by cases e), fun b o e => by cases e; exact ⟨rfl, h2, (Array.getElem?_eq_some_iff.1 h3).1⟩⟩
theorem OwnL.lst {n cap : Nat} (h : OwnL E N w (.slice a n cap) xs) : Lst E w a xs ∧ xs.length = n := by
  rcases h.row.2 with ⟨h1, h2⟩ | ⟨g, c, cur, h1, h2, h3, h4, h5, h6⟩
  · cases h1
    exact ⟨⟨by omega, fun i hi => absurd hi (by omega)⟩, h2⟩
  · cases h1
    refine ⟨⟨by unfold maxLen at h5; omega, fun i hi => ⟨g, 0, rfl, (Array.getElem?_eq_some_iff.1 h3).1, fun j hj => ?_⟩⟩, rfl⟩
    have hlt : i * E.k + j < xs.length * E.k := by
      have h8 : i * E.k + E.k ≤ xs.length * E.k := by rw [← Nat.succ_mul]; exact Nat.mul_le_mul_right _ hi
      omega
    rw [Nat.zero_add, h.row.cellAt _ (by omega)]
    exact cs_at E xs i hi j hj
theorem OwnL.at0 {n cap : Nat} {g : Nat} (h : OwnL E N w (.slice (some ⟨g, 0, none⟩) n cap) xs) : (∀ i (hi : i < xs.length) j, j < E.k → w.cell? ⟨g, i * E.k + j, none⟩ = (E.enc xs[i])[j]?) ∧ (∀ i, w.frozen? ⟨g, i, none⟩ = false) ∧ g < w.heap.size ∧ N ≤ g := by
  rcases h.row.2 with ⟨h1, h2⟩ | ⟨g', c, cur, h1, h2, h3, h4, h5, h6⟩
  · cases h1
  · have hl := h.lst.1
    cases h1
    refine ⟨fun i hi j hj => ?_, fun i => by simp [World.frozen?, h3], (Array.getElem?_eq_some_iff.1 h3).1, h2⟩
    obtain ⟨b, o, e, -, hc⟩ := hl.cells i hi
    cases e
    have := hc j hj
    rw [Nat.zero_add] at this
    exact this
theorem cs_set (E : El α) (u : Value) (y : α) (j : Nat) (hj : j < E.k) : ∀ (xs : List α) (i : Nat) (h : i < xs.length), E.enc y = (E.enc xs[i]).set j u → E.cs (xs.set i y) = (E.cs xs).set (i * E.k + j) u
  | x :: xs, 0, _, hy => by
    have e0 : ∀ z zs, E.cs (z :: zs) = E.enc z ++ E.cs zs := fun _ _ => rfl
    simp at hy
    rw [List.set_cons_zero, e0, e0, hy, Nat.zero_mul, Nat.zero_add, List.set_append, if_pos (by rw [E.hlen]; exact hj)]
  | x :: xs, i + 1, h, hy => by
    have e0 : ∀ z zs, E.cs (z :: zs) = E.enc z ++ E.cs zs := fun _ _ => rfl
    have e1 : (i + 1) * E.k + j = E.k + (i * E.k + j) := by rw [Nat.add_mul, Nat.one_mul]; omega
    rw [List.set_cons_succ, e0, e0, cs_set E u y j hj xs i (by simpa using h) (by simpa using hy), e1, List.set_append, if_neg (by rw [E.hlen]; omega), E.hlen, Nat.add_sub_cancel_left]
/-- one cell of an item is turned -/
theorem OwnL.setc {n cap g i j : Nat} (h : OwnL E N w (.slice (some ⟨g, 0, none⟩) n cap) xs) (hi : i < xs.length) (hj : j < E.k) (u : Value) (y : α) (hy : E.enc y = (E.enc xs[i]).set j u) : OwnL E N (w.setCell ⟨g, i * E.k + j, none⟩ u) (.slice (some ⟨g, 0, none⟩) n cap) (xs.set i y) := by
  rcases h.row.2 with ⟨h1, h2⟩ | ⟨g', c, cur, h1, h2, h3, h4, h5, h6, h7⟩
  · cases h1
  · cases h1
    refine ⟨by rw [cs_len], .inr ⟨g, cap, cur.setIfInBounds (i * E.k + j) u, by rw [List.length_set], h2, heap_setCell_same w g _ cur _ u h3, by rw [List.length_set]; exact h4, h5, by simpa using h6, ?_⟩⟩
    rw [List.length_set, cs_set E u y j hj xs i hi hy, ← h7, Array.toList_setIfInBounds]
    exact List.take_set
/-- one item, just built, is appended -/
theorem list_app1 {ops : Array Oper} {rest : List Oper} {o : Oper} {ac : Act} {Q : Exit → Act → World → Prop} (E : El α) (hgd : o.guard = none) (s x : Operand) (t : TypeId) (htt : t = E.t)
    (ho : o.op = .call { callee := .builtin .append, args := #[s, x], argTypes := #[t, t] }) (N : Nat) (v : Value) (xs : List α) (y : α) (hbig : xs.length ≤ 137438953471) {w : World} (W : World) (hs : ac.eval s = v) (hown : OwnL E N W v xs)
    (hx : ac.eval x = .slice (some ⟨w.heap.size, 0, none⟩) 1 1) (hN : N ≤ W.heap.size) (hW : W = w.alloc (Obj.cells (E.enc y).toArray E.e))
    (h : ∀ v' w', Hid (OwnL E N w' v' (xs ++ [y])) → Hid (W.grownBy w' v.ownBlock) → Hid (v'.ownBlock = v.ownBlock ∨ v'.ownBlock = some W.heap.size) → wpList Try.prog ops Q rest (ac.put o.dst v') w') :
    wpList Try.prog ops Q (o :: rest) ac W := by
  subst htt
  obtain ⟨i0, hi, hz0, hz1, hz2⟩ := info_of E.hi
  have hnew : W.heap[w.heap.size]? = some (Obj.cells (E.enc y).toArray E.e) := by rw [hW]; exact World.alloc_heap_new w _
  have e1 : E.cs [y] = E.enc y := by simp [El.cs]
  refine wpList_append_own_at _ hgd s x E.t ho N E.e i0 E.z E.k E.bytes E.ht hi hz0 hz1 hz2 E.hz E.hk v xs.length (E.cs xs) hs hown.row ⟨w.heap.size, 0, none⟩ 1 1 (E.cs [y]) hx (cs_len E _) ?_ (cs_one E _) (by unfold maxLen; omega) (Nat.le_trans (Nat.mul_le_mul_left _ E.hb) (by omega)) hN ?_
  · intro j u hj
    rw [e1] at hj
    rw [Addr.add_lit, Nat.zero_add]
    simp [World.cell?, hnew, hj]
  · intro v' w' h2 h3 _ h5
    exact h v' w' ⟨by rw [cs_app, List.length_append]; exact h2⟩ h3 h5
/-- a list that lies somewhere is appended -/
theorem list_appL {ops : Array Oper} {rest : List Oper} {o : Oper} {ac : Act} {Q : Exit → Act → World → Prop} (E : El α) (hgd : o.guard = none) (s x : Operand) (t : TypeId) (htt : t = E.t)
    (ho : o.op = .call { callee := .builtin .append, args := #[s, x], argTypes := #[t, t] }) (N : Nat) (v : Value) (xs ys : List α) (va : Option Addr) (n cap : Nat) (W : World) (hbig : xs.length + n ≤ 137438953471) (hs : ac.eval s = v) (hown : OwnL E N W v xs)
    (hx : ac.eval x = .slice va n cap) (hsrc : Lst E W va ys) (hnil : va = none → n = 0 ∧ cap = 0) (hn : ys.length = n) (hN : N ≤ W.heap.size)
    (h : ∀ v' w', Hid (OwnL E N w' v' (xs ++ ys)) → Hid (W.grownBy w' v.ownBlock) → Hid (v'.ownBlock = v.ownBlock ∨ v'.ownBlock = some W.heap.size) → wpList Try.prog ops Q rest (ac.put o.dst v') w') :
    wpList Try.prog ops Q (o :: rest) ac W := by
  subst htt
  obtain ⟨i0, hi, hz0, hz1, hz2⟩ := info_of E.hi
  cases va with
  | none =>
    obtain ⟨rfl, rfl⟩ := hnil rfl
    have e0 : ys = [] := List.length_eq_zero_iff.1 hn
    subst e0
    refine wpList_append_own_none hgd s x E.t ho N E.e i0 E.k E.ht hi v xs.length (E.cs xs) hs hown.row hx ?_
    exact h v W (by rw [List.append_nil]; exact hown) ⟨rfl, rfl, rfl, Nat.le_refl _, fun _ _ _ => rfl⟩ (Or.inl rfl)
  | some ad =>
    refine wpList_append_own_at _ hgd s x E.t ho N E.e i0 E.z E.k E.bytes E.ht hi hz0 hz1 hz2 E.hz E.hk v xs.length (E.cs xs) hs hown.row ad n cap (E.cs ys) hx (by rw [cs_len, hn]) ?_ (cs_one E _) (by unfold maxLen; omega) (Nat.le_trans (Nat.mul_le_mul_left _ E.hb) (by omega)) hN ?_
    · intro j u hj
      have hlt : j < ys.length * E.k := by
        have := (List.getElem?_eq_some_iff.1 hj).1
        rw [cs_len] at this; exact this
      have hk := E.hk
      have hq : j / E.k < ys.length := (Nat.div_lt_iff_lt_mul hk).2 hlt
      have hr : j % E.k < E.k := Nat.mod_lt _ hk
      have hdm : j / E.k * E.k + j % E.k = j := by rw [Nat.mul_comm]; exact Nat.div_add_mod j E.k
      obtain ⟨b, o', e, -, hc⟩ := hsrc.cells (j / E.k) hq
      cases e
      rw [Addr.add_lit]
      have h2 := hc (j % E.k) hr
      rw [Nat.add_assoc, hdm] at h2
      rw [h2, ← cs_at E ys (j / E.k) hq (j % E.k) hr, hdm]
      exact hj
    · intro v' w' h2 h3 _ h5
      exact h v' w' ⟨by rw [cs_app, List.length_append, hn]; exact h2⟩ h3 h5
/-- a list that was just made -/
theorem own_made (E : El α) {W W' : World} (xs : List α) (n : Nat) (hn : xs.length = n) (hs : n ≤ 137438953471) (h : W.alloc (Obj.cells (E.cs xs).toArray E.e) = W') : OwnL E W.heap.size W' (.slice (some ⟨W.heap.size, 0, none⟩) n n) xs ∧ Below W.heap.size W W' := by
  subst h hn
  refine ⟨⟨cs_len E xs, .inr ⟨W.heap.size, xs.length, (E.cs xs).toArray, rfl, Nat.le_refl _, World.alloc_heap_new W _, Nat.le_refl _, by unfold maxLen; omega, by simp [cs_len], ?_⟩⟩, (Below.refl _ W).alloc (Nat.le_refl _) _⟩
  rw [← cs_len E xs]
  simp
/-- a list of none that was just made -/
theorem own_made0 (E : El α) {W W' : World} (h : W.alloc (Obj.cells #[] E.e) = W') : OwnL E W.heap.size W' (.slice (some ⟨W.heap.size, 0, none⟩) 0 0) [] ∧ Below W.heap.size W W' := by
  subst h
  exact ⟨⟨by simp [El.cs], .inr ⟨W.heap.size, 0, #[], rfl, Nat.le_refl _, World.alloc_heap_new W _, Nat.le_refl _, by unfold maxLen; omega, by simp, by simp [El.cs]⟩⟩, (Below.refl _ W).alloc (Nat.le_refl _) _⟩
end
end Go.Proofs.Ytghlgkpfcpcopaa.Gm
namespace Go.Proofs.Ytghlgkpfcpcopaa.Pv
open Go.ChangeShapes Go.WideShapes Go.ChangeAt Go.RowKit Go.Joins Go.Proofs.Ytghlgkpfcpcopaa.PM Go.Proofs.Ytghlgkpfcpcopaa.Ask Go.Proofs.Ytghlgkpfcpcopaa.Ge
set_option linter.unusedVariables false

theorem rbx_new {r : Rt} {s : Sl} {w W : World} {k : Nat} (hk : w.heap.size = k) (h : w.alloc (Obj.cells #[.int .u32 r.pa, .int .i64 r.pn, .slice s.p r.path.length s.pc, .int .i64 r.org, .int .i64 r.pref, .int .i64 r.med, .int .u32 r.next, .slice s.m r.marks.length s.mc, .slice s.c r.clus.length s.cc, .int .i64 r.auth] 29) = W) : RBox k r s W ∧ Below w.heap.size w W ∧ W.heap.size = k + 1 := by
  subst hk
  exact rbox_new h
set_option maxRecDepth 100000 in
set_option maxHeartbeats 8000000 in
theorem rsame_any (r : Rt) (s1 s2 : Sl) (w : World) (h1 : ROk w r s1) (h2 : ROk w r s2) :
    Calls Try.prog 30 #[rtV r s1, rtV r s2] w fun e w' => e = .returned (.bool true) ∧ Below w.heap.size w w' := by
  have H1 : Hid (ROk w r s1) := h1
  have H2 : Hid (ROk w r s2) := h2
  obtain ⟨q1, hq1⟩ : ∃ n, r.path.length = n := ⟨_, rfl⟩
  have HQ1 : Hid (r.path.length = q1) := hq1
  obtain ⟨q2, hq2⟩ : ∃ n, r.marks.length = n := ⟨_, rfl⟩
  have HQ2 : Hid (r.marks.length = q2) := hq2
  obtain ⟨q3, hq3⟩ : ∃ n, r.clus.length = n := ⟨_, rfl⟩
  have HQ3 : Hid (r.clus.length = q3) := hq3
  unfold rtV
  rw [hq1, hq2, hq3]
  clear h1 h2 hq1 hq2 hq3
  go_enter Try.func30, Try.ntmps30
  go_upto_region 1 with fail
  obtain ⟨wa, hwa⟩ : ∃ W, w.alloc (Obj.cells #[.int .u32 r.pa, .int .i64 r.pn, .slice s1.p q1 s1.pc, .int .i64 r.org, .int .i64 r.pref, .int .i64 r.med, .int .u32 r.next, .slice s1.m q2 s1.mc, .slice s1.c q3 s1.cc, .int .i64 r.auth] 29) = W := ⟨_, rfl⟩
  obtain ⟨b1, hb1⟩ : ∃ k, w.heap.size = k := ⟨_, rfl⟩
  obtain ⟨hx1, hba, hsa⟩ := rbx_new (r := r) (s := s1) (W := wa) hb1 (by rw [HQ1.out, HQ2.out, HQ3.out]; exact hwa)
  obtain ⟨wb, hwb⟩ : ∃ W, wa.alloc (Obj.cells #[.int .u32 r.pa, .int .i64 r.pn, .slice s2.p q1 s2.pc, .int .i64 r.org, .int .i64 r.pref, .int .i64 r.med, .int .u32 r.next, .slice s2.m q2 s2.mc, .slice s2.c q3 s2.cc, .int .i64 r.auth] 29) = W := ⟨_, rfl⟩
  obtain ⟨b2, hb2⟩ : ∃ k, b1 + 1 = k := ⟨_, rfl⟩
  obtain ⟨hx2, hbb, hsb⟩ := rbx_new (r := r) (s := s2) (w := wa) (W := wb) (k := b2) (by omega) (by rw [HQ1.out, HQ2.out, HQ3.out]; exact hwb)
  rw [hwa, hwb, hb1, hb2]
  have HBW : Hid (Below w.heap.size w wb) := hba.trans (hbb.mono hba.size)
  have HX1 : Hid (∀ W, Below wb.heap.size wb W → RBox b1 r s1 W) := fun W h => (hx1.blk (hbb.block b1 (by omega))).blk (h.block b1 (by omega))
  have HX2 : Hid (∀ W, Below wb.heap.size wb W → RBox b2 r s2 W) := fun W h => hx2.blk (h.block b2 (by omega))
  have HR1 : Hid (∀ W, Below wb.heap.size wb W → ROk W r s1) := fun W h => (H1.out.bel HBW.out).bel h
  have HR2 : Hid (∀ W, Below wb.heap.size wb W → ROk W r s2) := fun W h => (H2.out.bel HBW.out).bel h
  clear hwa hwb hb1 hb2 hx1 hx2 hba hbb hsa hsb H1 H2
  obtain ⟨c0, c1, c2, c3, c4, c5, c6, c7, c8, c9⟩ := HX1.out wb (Below.refl _ _)
  rw [HQ1.out] at c2
  rw [HQ2.out] at c7
  rw [HQ3.out] at c8
  obtain ⟨d0, d1, d2, d3, d4, d5, d6, d7, d8, d9⟩ := HX2.out wb (Below.refl _ _)
  rw [HQ1.out] at d2
  rw [HQ2.out] at d7
  rw [HQ3.out] at d8
  go_wp2_with fail
  refine (ints_same s1.p s1.pc s2.p s2.pc r.path q1 HQ1.out wb (HR1.out _ (Below.refl _ _)).p (HR2.out _ (Below.refl _ _)).p).mono ?_
  rintro e w1 ⟨rfl, hb1⟩
  have HB1 : Hid (Below wb.heap.size wb w1) := hb1
  clear hb1 c0 d0 c1 d1 c2 d2 c3 d3 c4 d4 c5 d5 c6 d6 c7 d7 c8 d8 c9 d9
  obtain ⟨c0, c1, c2, c3, c4, c5, c6, c7, c8, c9⟩ := HX1.out w1 HB1.out
  rw [HQ1.out] at c2
  rw [HQ2.out] at c7
  rw [HQ3.out] at c8
  obtain ⟨d0, d1, d2, d3, d4, d5, d6, d7, d8, d9⟩ := HX2.out w1 HB1.out
  rw [HQ1.out] at d2
  rw [HQ2.out] at d7
  rw [HQ3.out] at d8
  go_wp2_with fail
  refine (ints_same s1.m s1.mc s2.m s2.mc r.marks q2 HQ2.out w1 (HR1.out _ HB1.out).m (HR2.out _ HB1.out).m).mono ?_
  rintro e w2 ⟨rfl, hb2⟩
  have HB2 : Hid (Below wb.heap.size wb w2) := HB1.out.trans (hb2.mono HB1.out.size)
  clear hb2 HB1 c0 d0 c1 d1 c2 d2 c3 d3 c4 d4 c5 d5 c6 d6 c7 d7 c8 d8 c9 d9
  obtain ⟨c0, c1, c2, c3, c4, c5, c6, c7, c8, c9⟩ := HX1.out w2 HB2.out
  rw [HQ1.out] at c2
  rw [HQ2.out] at c7
  rw [HQ3.out] at c8
  obtain ⟨d0, d1, d2, d3, d4, d5, d6, d7, d8, d9⟩ := HX2.out w2 HB2.out
  rw [HQ1.out] at d2
  rw [HQ2.out] at d7
  rw [HQ3.out] at d8
  go_wp2_with fail
  refine (ints_same s1.c s1.cc s2.c s2.cc r.clus q3 HQ3.out w2 (HR1.out _ HB2.out).c (HR2.out _ HB2.out).c).mono ?_
  rintro e w3 ⟨rfl, hb3⟩
  have HB3 : Hid (Below w.heap.size w w3) := HBW.out.trans ((HB2.out.trans (hb3.mono HB2.out.size)).mono HBW.out.size)
  clear hb3 HB2 c0 d0 c1 d1 c2 d2 c3 d3 c4 d4 c5 d5 c6 d6 c7 d7 c8 d8 c9 d9
  go_wp2_with fail
  go_ret
  exact ⟨rfl, HB3.out⟩
theorem mbx2_new {m : Ms} {s : Sl} {w W : World} {k : Nat} (hk : w.heap.size = k) (h : w.alloc (Obj.cells #[.int .i64 m.kind, .int .i64 m.dom, .int .i64 m.id, .int .i64 m.hold, .int .i64 m.code, .slice s.l m.lost.length s.lc, .slice s.h m.hv.length s.hc, .int .u32 m.rt.pa, .int .i64 m.rt.pn, .slice s.p m.rt.path.length s.pc, .int .i64 m.rt.org, .int .i64 m.rt.pref, .int .i64 m.rt.med, .int .u32 m.rt.next, .slice s.m m.rt.marks.length s.mc, .slice s.c m.rt.clus.length s.cc, .int .i64 m.rt.auth] 31) = W) : MBox k m s W ∧ Below w.heap.size w W ∧ W.heap.size = k + 1 := by
  subst hk
  exact mbox_new h
set_option maxRecDepth 100000 in
set_option maxHeartbeats 16000000 in
theorem msame_any (m : Ms) (s1 s2 : Sl) (w : World) (h1 : MOk w m s1) (h2 : MOk w m s2) :
    Calls Try.prog 9 #[msV m s1, msV m s2] w fun e w' => e = .returned (.bool true) ∧ Below w.heap.size w w' := by
  have H1 : Hid (MOk w m s1) := h1
  have H2 : Hid (MOk w m s2) := h2
  obtain ⟨n1, hn1⟩ : ∃ n, m.lost.length = n := ⟨_, rfl⟩
  have HN1 : Hid (m.lost.length = n1) := hn1
  obtain ⟨n2, hn2⟩ : ∃ n, m.hv.length = n := ⟨_, rfl⟩
  have HN2 : Hid (m.hv.length = n2) := hn2
  obtain ⟨q1, hq1⟩ : ∃ n, m.rt.path.length = n := ⟨_, rfl⟩
  have HQ1 : Hid (m.rt.path.length = q1) := hq1
  obtain ⟨q2, hq2⟩ : ∃ n, m.rt.marks.length = n := ⟨_, rfl⟩
  have HQ2 : Hid (m.rt.marks.length = q2) := hq2
  obtain ⟨q3, hq3⟩ : ∃ n, m.rt.clus.length = n := ⟨_, rfl⟩
  have HQ3 : Hid (m.rt.clus.length = q3) := hq3
  have HRV : Hid (∀ s : Sl, rtV m.rt s = .agg #[.int .u32 m.rt.pa, .int .i64 m.rt.pn, .slice s.p q1 s.pc, .int .i64 m.rt.org, .int .i64 m.rt.pref, .int .i64 m.rt.med, .int .u32 m.rt.next, .slice s.m q2 s.mc, .slice s.c q3 s.cc, .int .i64 m.rt.auth]) := fun s => by unfold rtV; rw [hq1, hq2, hq3]
  unfold msV
  rw [hn1, hn2, hq1, hq2, hq3]
  clear h1 h2 hn1 hn2 hq1 hq2 hq3
  go_enter Try.func9, Try.ntmps9
  go_upto_region 1 with fail
  obtain ⟨wa, hwa⟩ : ∃ W, w.alloc (Obj.cells #[.int .i64 m.kind, .int .i64 m.dom, .int .i64 m.id, .int .i64 m.hold, .int .i64 m.code, .slice s1.l n1 s1.lc, .slice s1.h n2 s1.hc, .int .u32 m.rt.pa, .int .i64 m.rt.pn, .slice s1.p q1 s1.pc, .int .i64 m.rt.org, .int .i64 m.rt.pref, .int .i64 m.rt.med, .int .u32 m.rt.next, .slice s1.m q2 s1.mc, .slice s1.c q3 s1.cc, .int .i64 m.rt.auth] 31) = W := ⟨_, rfl⟩
  obtain ⟨b1, hb1⟩ : ∃ k, w.heap.size = k := ⟨_, rfl⟩
  obtain ⟨hx1, hba, hsa⟩ := mbx2_new (m := m) (s := s1) (W := wa) hb1 (by rw [HN1.out, HN2.out, HQ1.out, HQ2.out, HQ3.out]; exact hwa)
  obtain ⟨wb, hwb⟩ : ∃ W, wa.alloc (Obj.cells #[.int .i64 m.kind, .int .i64 m.dom, .int .i64 m.id, .int .i64 m.hold, .int .i64 m.code, .slice s2.l n1 s2.lc, .slice s2.h n2 s2.hc, .int .u32 m.rt.pa, .int .i64 m.rt.pn, .slice s2.p q1 s2.pc, .int .i64 m.rt.org, .int .i64 m.rt.pref, .int .i64 m.rt.med, .int .u32 m.rt.next, .slice s2.m q2 s2.mc, .slice s2.c q3 s2.cc, .int .i64 m.rt.auth] 31) = W := ⟨_, rfl⟩
  obtain ⟨b2, hb2⟩ : ∃ k, b1 + 1 = k := ⟨_, rfl⟩
  obtain ⟨hx2, hbb, hsb⟩ := mbx2_new (m := m) (s := s2) (w := wa) (W := wb) (k := b2) (by omega) (by rw [HN1.out, HN2.out, HQ1.out, HQ2.out, HQ3.out]; exact hwb)
  rw [hwa, hwb, hb1, hb2]
  have HBW : Hid (Below w.heap.size w wb) := hba.trans (hbb.mono hba.size)
  have HX1 : Hid (∀ W, Below wb.heap.size wb W → MBox b1 m s1 W) := fun W h => (hx1.blk (hbb.block b1 (by omega))).blk (h.block b1 (by omega))
  have HX2 : Hid (∀ W, Below wb.heap.size wb W → MBox b2 m s2 W) := fun W h => hx2.blk (h.block b2 (by omega))
  have HR1 : Hid (∀ W, Below wb.heap.size wb W → MOk W m s1) := fun W h => (H1.out.bel HBW.out).bel h
  have HR2 : Hid (∀ W, Below wb.heap.size wb W → MOk W m s2) := fun W h => (H2.out.bel HBW.out).bel h
  clear hwa hwb hb1 hb2 hx1 hx2 hba hbb hsa hsb H1 H2
  obtain ⟨c0, c1, c2, c3, c4, c5, c6, c7, c8, c9, c10, c11, c12, c13, c14, c15, c16⟩ := HX1.out wb (Below.refl _ _)
  rw [HN1.out] at c5
  rw [HN2.out] at c6
  rw [HQ1.out] at c9
  rw [HQ2.out] at c14
  rw [HQ3.out] at c15
  obtain ⟨d0, d1, d2, d3, d4, d5, d6, d7, d8, d9, d10, d11, d12, d13, d14, d15, d16⟩ := HX2.out wb (Below.refl _ _)
  rw [HN1.out] at d5
  rw [HN2.out] at d6
  rw [HQ1.out] at d9
  rw [HQ2.out] at d14
  rw [HQ3.out] at d15
  go_wp2_with fail
  refine (pfxs_same s1.l s1.lc s2.l s2.lc m.lost n1 HN1.out wb (HR1.out _ (Below.refl _ _)).l (HR2.out _ (Below.refl _ _)).l).mono ?_
  rintro e w1 ⟨rfl, hb1⟩
  have HB1 : Hid (Below wb.heap.size wb w1) := hb1
  clear hb1 c0 d0 c1 d1 c2 d2 c3 d3 c4 d4 c5 d5 c6 d6 c7 d7 c8 d8 c9 d9 c10 d10 c11 d11 c12 d12 c13 d13 c14 d14 c15 d15 c16 d16
  obtain ⟨c0, c1, c2, c3, c4, c5, c6, c7, c8, c9, c10, c11, c12, c13, c14, c15, c16⟩ := HX1.out w1 HB1.out
  rw [HN1.out] at c5
  rw [HN2.out] at c6
  rw [HQ1.out] at c9
  rw [HQ2.out] at c14
  rw [HQ3.out] at c15
  obtain ⟨d0, d1, d2, d3, d4, d5, d6, d7, d8, d9, d10, d11, d12, d13, d14, d15, d16⟩ := HX2.out w1 HB1.out
  rw [HN1.out] at d5
  rw [HN2.out] at d6
  rw [HQ1.out] at d9
  rw [HQ2.out] at d14
  rw [HQ3.out] at d15
  go_wp2_with fail
  refine (pfxs_same s1.h s1.hc s2.h s2.hc m.hv n2 HN2.out w1 (HR1.out _ HB1.out).h (HR2.out _ HB1.out).h).mono ?_
  rintro e w2 ⟨rfl, hb2⟩
  have HB2 : Hid (Below wb.heap.size wb w2) := HB1.out.trans (hb2.mono HB1.out.size)
  clear hb2 HB1 c0 d0 c1 d1 c2 d2 c3 d3 c4 d4 c5 d5 c6 d6 c7 d7 c8 d8 c9 d9 c10 d10 c11 d11 c12 d12 c13 d13 c14 d14 c15 d15 c16 d16
  obtain ⟨c0, c1, c2, c3, c4, c5, c6, c7, c8, c9, c10, c11, c12, c13, c14, c15, c16⟩ := HX1.out w2 HB2.out
  rw [HN1.out] at c5
  rw [HN2.out] at c6
  rw [HQ1.out] at c9
  rw [HQ2.out] at c14
  rw [HQ3.out] at c15
  obtain ⟨d0, d1, d2, d3, d4, d5, d6, d7, d8, d9, d10, d11, d12, d13, d14, d15, d16⟩ := HX2.out w2 HB2.out
  rw [HN1.out] at d5
  rw [HN2.out] at d6
  rw [HQ1.out] at d9
  rw [HQ2.out] at d14
  rw [HQ3.out] at d15
  have HRS := rsame_any m.rt s1 s2 w2 (HR1.out _ HB2.out).r (HR2.out _ HB2.out).r
  rw [HRV.out s1, HRV.out s2] at HRS
  go_wp2_with fail
  refine HRS.mono ?_
  rintro e w3 ⟨rfl, hb3⟩
  have HB3 : Hid (Below w.heap.size w w3) := HBW.out.trans ((HB2.out.trans (hb3.mono HB2.out.size)).mono HBW.out.size)
  clear hb3 HB2 HRS c0 d0 c1 d1 c2 d2 c3 d3 c4 d4 c5 d5 c6 d6 c7 d7 c8 d8 c9 d9 c10 d10 c11 d11 c12 d12 c13 d13 c14 d14 c15 d15 c16 d16
  go_wp2_with fail
  go_ret
  exact ⟨rfl, HB3.out⟩
end Go.Proofs.Ytghlgkpfcpcopaa.Pv
namespace Go.Proofs.Ytghlgkpfcpcopaa.Pv
open Go.ChangeShapes Go.WideShapes Go.ChangeAt Go.RowKit Go.Joins Go.Proofs.Ytghlgkpfcpcopaa.PM Go.Proofs.Ytghlgkpfcpcopaa.Ask Go.Proofs.Ytghlgkpfcpcopaa.Ge
set_option linter.unusedVariables false

set_option maxRecDepth 100000 in
theorem bsame_any (va : Option Addr) (cap : Nat) (vb : Option Addr) (cap2 : Nat) (bs : List Nat) (L : Nat) (hL : bs.length = L) (w : World) (hx : Lst E8 w va bs) (hy : Lst E8 w vb bs) :
    Calls Try.prog 10 #[.slice va L cap, .slice vb L cap2] w fun e w' => e = .returned (.bool true) ∧ w' = w := by
  have h1 := conv_by (cap := cap) hx hL
  have h2 := conv_by (cap := cap2) hy hL
  obtain ⟨S, hS⟩ : ∃ S, strOfNums (bs.map (fun x : Nat => (x : Int))) = S := ⟨_, rfl⟩
  rw [hS] at h1 h2
  clear hx hy hS hL
  go_enter Try.func10, Try.ntmps10
  go_wp2_with fail
  go_ret
  exact ⟨rfl, rfl⟩
def msA : Ms := ⟨3, 0, 0, 0, 0, [], [], rtZ⟩
theorem msA_ok (N : Nat) (w : World) : MO N w msA sZ := mo_zero _ _ _ rfl rfl rfl
theorem encA : encE msA = 0 := by decide
theorem encAB : (encB msA).length = 9 := by
  unfold encB
  rw [encA, if_pos rfl, frame_len]
  rfl
set_option maxRecDepth 100000 in
set_option maxHeartbeats 16000000 in
theorem only_any (va : Option Addr) (n cap : Nat) (xs : List Nat) (hn : xs.length = n) (hcap : n ≤ cap) (w : World) (hl : Lst E8 w va xs) (hu : ∀ d ∈ xs, d < 256) :
    Calls Try.prog 4 #[.slice va n cap] w fun e w' => e = .returned (.bool true) ∧ Below w.heap.size w w' := by
  have HL : Hid (Lst E8 w va xs) := hl
  have HU : Hid (∀ d ∈ xs, d < 256) := hu
  have HN : Hid (xs.length = n) := hn
  have hsm := hl.small
  rw [hn] at hsm
  have HEA := encode_any msA sZ w (msA_ok 0 w).ok ⟨by decide, by decide⟩ _ _ rfl encA
  clear hl hu hn
  go_enter Try.func4, Try.ntmps4
  go_wp2_with fail
  refine HEA.mono ?_
  rintro e w1 ⟨v1, rfl, ho1, hb1⟩
  obtain ⟨va1, vc1, hv1, -⟩ := ho1.form
  rw [encAB] at hv1
  subst hv1
  have HB1 : Hid (Below w.heap.size w w1) := hb1
  clear ho1 hb1 HEA
  by_cases hbig : 20000 < n
  · have hbi : (20000 : Int) < (n : Int) := by omega
    go_wp2_with fail
    go_ret
    exact ⟨rfl, HB1.out⟩
  · have hbi : ¬ (20000 : Int) < (n : Int) := by omega
    go_wp2_with fail
    refine (decode_any va n cap xs HN.out hcap w1 (HL.out.bel HB1.out) HU.out).mono ?_
    rintro e w2 ⟨s, rfl, hmo2, hb2⟩
    obtain ⟨m, er, hd⟩ : ∃ m er, dec xs = (m, er) := ⟨_, _, rfl⟩
    rw [hd] at hmo2 ⊢
    dsimp only at hmo2 ⊢
    have HD : Hid (dec xs = (m, er)) := hd
    have HMO2 : Hid (MO w1.heap.size w2 m s) := hmo2
    have HB2 : Hid (Below w.heap.size w w2) := HB1.out.trans (hb2.mono HB1.out.size)
    clear hb2 hd hmo2 HB1
    go_wp2_with (refine list_mstore rfl _ _ rfl (b := w2.heap.size) (m := m) (s := s) rfl rfl (mb_zero rfl rfl).1 ?_)
    intro w4 hm4 hk4
    obtain ⟨hz3, hb3⟩ := mb_zero (w := w2) rfl rfl
    have hk24 : Below w2.heap.size w2 w4 := hb3.trans (hk4.out.below (Nat.le_refl _) hb3.size)
    have HB4 : Hid (Below w.heap.size w w4) := HB2.out.trans (hk24.mono HB2.out.size)
    have HMO4 : Hid (MO w1.heap.size w4 m s) := HMO2.out.blk (fun g _ _ hl => hk24.block g hl)
    obtain ⟨bq, hbq⟩ : ∃ k, w2.heap.size = k := ⟨_, rfl⟩
    rw [hbq] at hm4 ⊢
    have HQ4 : Hid (MB bq m s w4) := hm4
    clear hm4 hk4 hz3 hb3 HB2 HMO2 hk24 hbq
    by_cases he0 : er = 0
    · subst he0
      obtain ⟨p1, p2, p3⟩ := only_plain HU.out HD.out
      obtain ⟨bs, hbs⟩ : ∃ bs, encB m = bs := ⟨_, rfl⟩
      rw [hbs, HN.out] at p2 p3
      obtain ⟨L, hL⟩ : ∃ L, bs.length = L := ⟨_, rfl⟩
      rw [hL] at p2 p3
      have HP3 : Hid (L = n → bs = xs) := p3
      have HLL : Hid (bs.length = L) := hL
      have hsz : m.lost.length ≤ 100000 ∧ m.hv.length ≤ 100000 := by
        rcases dec_cases xs with ⟨e', he', hne⟩ | ⟨m', kd, body, he', -, -, -, -, -, hx, -, -⟩
        · have h5 := HD.out; rw [he'] at h5; cases h5; exact absurd rfl hne
        · have h5 := HD.out; rw [he'] at h5; cases h5
          obtain ⟨q1, q2, -, -⟩ := readB_len hx
          rw [List.length_drop, HN.out] at q1 q2
          omega
      have HENC := encode_any m s w4 HMO4.out.ok hsz bs 0 hbs p1
      clear hbs p1 p3 hL hsz
      go_wp2_with (refine list_mload rfl _ rfl (b := bq) rfl HQ4.out ?_)
      refine HENC.mono ?_
      rintro e w5 ⟨v5, rfl, ho5, hb5⟩
      obtain ⟨va5, vc5, hv5, -⟩ := ho5.form
      rw [HLL.out] at hv5
      subst hv5
      have HB5 : Hid (Below w.heap.size w w5) := HB4.out.trans (hb5.mono HB4.out.size)
      have HO5 : Hid (OwnL E8 w4.heap.size w5 (.slice va5 L vc5) bs) := ho5
      clear ho5 hb5 HENC HB4 HQ4 HMO4
      have hLn : ¬ (n : Int) < (L : Int) := by omega
      by_cases hlt : L < n
      · have hlti : (L : Int) < (n : Int) := by omega
        go_wp2_with fail
        go_ret
        exact ⟨rfl, HB5.out⟩
      · obtain rfl : L = n := by omega
        have hlti : ¬ (L : Int) < (L : Int) := by omega
        have e5 := HP3.out rfl
        have HBS := bsame_any va cap va5 vc5 xs L HN.out w5 (HL.out.bel HB5.out) (by rw [← e5]; exact HO5.out.lst.1)
        clear e5 HP3 HLL HO5
        go_wp2_with fail
        refine HBS.mono ?_
        rintro e w6 ⟨rfl, hw6⟩
        rw [hw6]
        clear hw6 w6 HBS
        go_wp2_with fail
        go_ret
        exact ⟨rfl, HB5.out⟩
    · have he0b : (er != 0) = true := by simpa using he0
      obtain rfl : ms0 = m := (dec_err HD.out he0).symm
      have HSM := msame_any ms0 s sZ w4 HMO4.out.ok (mo_zero w1.heap.size w4 ms0 rfl rfl rfl).ok
      clear HMO4
      go_wp2_with (refine list_mload rfl _ rfl (b := bq) rfl HQ4.out ?_)
      refine HSM.mono ?_
      rintro e w5 ⟨rfl, hb5⟩
      have HB5 : Hid (Below w.heap.size w w5) := HB4.out.trans (hb5.mono HB4.out.size)
      clear hb5 HSM HB4 HQ4
      go_wp2_with fail
      go_ret
      exact ⟨rfl, HB5.out⟩
end Go.Proofs.Ytghlgkpfcpcopaa.Pv
