/- walk, where one block may turn meanwhile: what it gives. -/
import Derived.Test.YtibmhdfodmkahaaTrZ
import Derived.Test.YtibmhdfodmkahaaTrAB
namespace Go.Proofs.Ytibmhdfodmkahaa.Tuz
open Go.ChangeShapes Go.WideShapes Go.ChangeAt Go.RowKit Go.Shelf Go.Proofs.Ytibmhdfodmkahaa.PM Go.Proofs.Ytibmhdfodmkahaa.TrM Go.Proofs.Ytibmhdfodmkahaa.Ask Go.Proofs.Ytibmhdfodmkahaa.Tri
set_option linter.unusedVariables false
attribute [local go_sem] Oper.semAt_some

/-- all below n₀ stays, but for the block bh -/
structure BelX (bh n₀ : Nat) (A B : World) : Prop where
  os : B.os = A.os
  tape : B.tape = A.tape
  output : B.output = A.output
  size : A.heap.size ≤ B.heap.size
  block : ∀ k, k < n₀ → k ≠ bh → B.heap[k]? = A.heap[k]?
theorem BelX.of {bh n₀ : Nat} {A B : World} (h : Below n₀ A B) : BelX bh n₀ A B := ⟨h.os, h.tape, h.output, h.size, fun k hk _ => h.block k hk⟩
theorem BelX.refl (bh n₀ : Nat) (A : World) : BelX bh n₀ A A := ⟨rfl, rfl, rfl, Nat.le_refl _, fun _ _ _ => rfl⟩
theorem BelX.trans {bh n₀ : Nat} {A B C : World} (h : BelX bh n₀ A B) (k : BelX bh n₀ B C) : BelX bh n₀ A C := ⟨k.os.trans h.os, k.tape.trans h.tape, k.output.trans h.output, Nat.le_trans h.size k.size, fun j hj hn => (k.block j hj hn).trans (h.block j hj hn)⟩
theorem BelX.book {bh n₀ : Nat} {w : World} (hn : n₀ ≤ w.heap.size) (W : World) (l : Nat) (o o' : Obj) (hl : w.heap.size ≤ l) (h : W.heap[l]? = some o) (h1 : o.isCells = false) (h2 : o.isWalk = false) : BelX bh n₀ W (W.putObj l o') := BelX.of (belowK_b hn W l o o' hl h h1 h2)
theorem repX {bh n₀ : Nat} {w w' : World} {t : Tr} {p : Option Addr} (h : Rep (fun b => b < n₀ ∧ b ≠ bh) w t p) (hw : BelX bh n₀ w w') : Rep (fun b => b < n₀ ∧ b ≠ bh) w' t p := by
  induction t generalizing p with
  | nil => exact h
  | node a n v hh l r il ir =>
    obtain ⟨hb, b, pl, pr, e, hlt, hok, ⟨h0, h1, h2, h3, h4, h5⟩, hl, hr⟩ := h
    have hbk := hw.block b hok.1 hok.2
    exact ⟨hb, b, pl, pr, e, Nat.lt_of_lt_of_le hlt hw.size, hok, ⟨(World.cell?_of_block (w := w) hbk).trans h0, (World.cell?_of_block (w := w) hbk).trans h1, (World.cell?_of_block (w := w) hbk).trans h2, (World.cell?_of_block (w := w) hbk).trans h3, (World.cell?_of_block (w := w) hbk).trans h4, (World.cell?_of_block (w := w) hbk).trans h5⟩, il hl, ir hr⟩
/-- an item whose address is one -/
def nm (y : Int × Int × Int) : Int × Int × Int := (y.1 % 4294967296, y.2.1, y.2.2)
theorem nm_is {y : Int × Int × Int} (h : In32 y.1) : nm y = y := by
  obtain ⟨a, n, v⟩ := y
  unfold nm; rw [Int.emod_eq_of_lt h.1 h.2]
theorem nm_u32 (y : Int × Int × Int) : In32 (nm y).1 := ⟨Int.emod_nonneg _ (by decide), Int.emod_lt_of_pos _ (by decide)⟩
/-- what a caller's loop gives for each item -/
def Gives (P : Program) (n l bh n₀ N : Nat) (J Jx : List (Int × Int × Int) → World → Prop) : Prop :=
  ∀ pre y W1, J pre W1 → pre.length < N → YieldAt Fence.wide n P l (enc3 (nm y)) W1 fun e W' => (e = .returned (.bool true) ∧ J (pre ++ [y]) W' ∧ BelX bh n₀ W1 W') ∨ (e = .returned (.bool false) ∧ Jx (pre ++ [y]) W')
theorem Gives.wide {P : Program} {n m l bh n₀ N : Nat} {J Jx : List (Int × Int × Int) → World → Prop} (h : Gives P n l bh n₀ N J Jx) : Gives P m l bh n₀ N J Jx := fun pre y W1 hj hl => YieldAt.wide (h pre y W1 hj hl)

/-- how a walk ends -/
def Walked (J Jx : List (Int × Int × Int) → World → Prop) (bh n₀ : Nat) (W : World) (pre all : List (Int × Int × Int)) (v : Bool) (W' : World) : Prop :=
  (v = true ∧ J (pre ++ all) W' ∧ BelX bh n₀ W W') ∨ (v = false ∧ ∃ r, r <+: all ∧ Jx (pre ++ r) W')

theorem Walked.last {J Jx : List (Int × Int × Int) → World → Prop} {bh n₀ : Nat} {W W2 W3 : World} {pre hd la ra : List (Int × Int × Int)} {v : Bool} (h : Walked J Jx bh n₀ W2 (pre ++ hd ++ la) ra v W3) (hb : BelX bh n₀ W W2) : Walked J Jx bh n₀ W pre (hd ++ (la ++ ra)) v W3 := by
  rcases h with ⟨rfl, h1, h2⟩ | ⟨rfl, r, ⟨t, ht⟩, hx⟩
  · exact .inl ⟨rfl, by simpa [List.append_assoc] using h1, hb.trans h2⟩
  · exact .inr ⟨rfl, hd ++ (la ++ r), ⟨t, by simp [← ht]⟩, by simpa [List.append_assoc] using hx⟩
theorem Walked.left {J Jx : List (Int × Int × Int) → World → Prop} {bh n₀ : Nat} {W W2 : World} {pre hd la ra r : List (Int × Int × Int)} (hr : r <+: la) (hx : Jx (pre ++ hd ++ r) W2) : Walked J Jx bh n₀ W pre (hd ++ (la ++ ra)) false W2 := by
  obtain ⟨t, ht⟩ := hr
  exact .inr ⟨rfl, hd ++ r, ⟨t ++ ra, by simp [← ht]⟩, by simpa [List.append_assoc] using hx⟩
theorem Walked.first {J Jx : List (Int × Int × Int) → World → Prop} {bh n₀ : Nat} {W W2 : World} {pre la ra : List (Int × Int × Int)} {y : Int × Int × Int} (hx : Jx (pre ++ [y]) W2) : Walked J Jx bh n₀ W pre ([y] ++ (la ++ ra)) false W2 :=
  .inr ⟨rfl, [y], ⟨la ++ ra, rfl⟩, hx⟩


set_option maxRecDepth 100000 in
set_option maxHeartbeats 4000000 in
theorem walk1 (J Jx : List (Int × Int × Int) → World → Prop) (hJ : ∀ s A B, J s A → Below A.heap.size A B → J s B) (l bh n₀ N : Nat) (s : Tr) : ∀ (n : Nat) (q : Option Addr) (pre : List (Int × Int × Int)) (W : World), Gives Try.prog n l bh n₀ N J Jx → Rep (fun b => b < n₀ ∧ b ≠ bh) W s q → n₀ ≤ W.heap.size → J pre W → pre.length + (allT s).length ≤ N →
    CallsIn Fence.wide n Try.prog 50 #[.pointer q, .func (.yield l) #[] #[]] W fun e W' => ∃ v, e = .returned (.bool v) ∧ Walked J Jx bh n₀ W pre (allT s) v W' := by
  induction s with
  | nil =>
    intro n q pre W hG hrep hn h0 hlen
    obtain rfl : q = none := hrep
    refine callsIn_of_wp Try.func50 rfl trivial ?_ rfl
    simp only [Try.ntmps50, List.size_toArray, List.length_cons, List.length_nil, Nat.reduceAdd, Nat.reduceSub, Array.replicate_succ, Array.replicate_zero, List.push_toArray, List.append_toArray, List.nil_append, List.cons_append]
    gi_wp2
    go_ret
    exact ⟨true, rfl, .inl ⟨rfl, by simpa [allT] using h0, BelX.refl _ _ _⟩⟩
  | node b m u h l2 r2 il ir =>
    intro n q pre W hG hrep hn h0 hlen
    have HG : Hid (∀ m, Gives Try.prog m l bh n₀ N J Jx) := fun m => hG.wide
    have HREP : Hid (Rep (fun b => b < n₀ ∧ b ≠ bh) W (.node b m u h l2 r2) q) := hrep
    have HLEN : Hid (pre.length + (allT (.node b m u h l2 r2)).length ≤ N) := hlen
    have H0 : Hid (J pre W) := h0
    have IL : Hid (∀ (n : Nat) (q : Option Addr) (pre : List (Int × Int × Int)) (W : World), _) := il
    have IR : Hid (∀ (n : Nat) (q : Option Addr) (pre : List (Int × Int × Int)) (W : World), _) := ir
    clear hG hlen h0 il ir
    obtain ⟨hbd, bn, pl, pr, rfl, hlt, hok, ⟨c0, c1, c2, c3, c4, c5⟩, -, -⟩ := hrep
    have HNM : Hid (nm (b, m, u) = (b, m, u)) := nm_is ⟨hbd.1, hbd.2.1⟩
    clear hbd
    refine callsIn_of_wp Try.func50 rfl trivial ?_ rfl
    simp only [Try.ntmps50, List.size_toArray, List.length_cons, List.length_nil, Nat.reduceAdd, Nat.reduceSub, Array.replicate_succ, Array.replicate_zero, List.push_toArray, List.append_toArray, List.nil_append, List.cons_append]
    cases h with
    | false =>
      gi_wp2
      refine wpIn_wide.2 ?_
      go_quiet (fail)
      obtain ⟨W1, hW1⟩ : ∃ W1, W.drewN nq = W1 := ⟨_, rfl⟩
      have hb1 : BelX bh n₀ W W1 := by rw [← hW1]; exact BelX.of ((bel_q W nq).mono hn)
      have hs1 : n₀ ≤ W1.heap.size := Nat.le_trans hn hb1.size
      have hJ1 : J (pre ++ []) W1 := by rw [← hW1, List.append_nil]; exact hJ _ _ _ H0.out (bel_q W nq)
      rw [hW1]
      clear hW1 c0 c1 c2 c3 c4 c5
      obtain ⟨-, bn1, pl1, pr1, e1, hlt1, -, ⟨d0, d1, d2, d3, d4, d5⟩, hl1, -⟩ := repX HREP.out hb1
      cases e1
      gi_wp2
      refine ⟨trivial, fun h => (by cases h), ?_⟩
      refine (IL.out (n - 1) pl1 (pre ++ []) W1 (HG.out _) hl1 hs1 hJ1 (by have := HLEN.out; rw [allT_node] at this; simp at this ⊢; omega)).mono ?_
      rintro e W2 ⟨v, rfl, (⟨rfl, hJ2, hb2⟩ | ⟨rfl, r, hr, hx⟩)⟩
      · have hb02 : BelX bh n₀ W W2 := hb1.trans hb2
        clear d0 d1 d2 d3 d4 d5 hl1
        obtain ⟨-, bn2, pl2, pr2, e2, hlt2, -, ⟨d0, d1, d2, d3, d4, d5⟩, -, hr2⟩ := repX HREP.out hb02
        cases e2
        gi_wp2
        refine ⟨trivial, fun h => (by cases h), ?_⟩
        refine (IR.out (n - 1) pr2 (pre ++ [] ++ allT l2) W2 (HG.out _) hr2 (Nat.le_trans hs1 hb2.size) hJ2 (by have := HLEN.out; rw [allT_node] at this; simp at this ⊢; omega)).mono ?_
        rintro e W3 ⟨v, rfl, hv⟩
        have HV : Hid (Walked J Jx bh n₀ W pre ([] ++ (allT l2 ++ allT r2)) v W3) := Walked.last hv hb02
        clear hv
        gi_wp2
        go_ret
        exact ⟨v, rfl, HV.out⟩
      · have HV : Hid (Walked J Jx bh n₀ W pre ([] ++ (allT l2 ++ allT r2)) false W2) := Walked.left hr hx
        clear hr hx
        gi_wp2
        refine ⟨trivial, ?_⟩
        gi_wp2
        go_ret
        exact ⟨false, rfl, HV.out⟩
    | true =>
      obtain ⟨fn, tmps, assign, body, hy, hR⟩ := HG.out (n - 1) pre (b, m, u) W.drew (hJ _ _ _ H0.out (bel_q W 1)) (by have := HLEN.out; rw [allT_node] at this; simp at this; omega)
      rw [HNM.out] at hy
      dsimp only [enc3] at hy
      have hR' := hR.mono (R' := fun e W' => ∃ v, e = .returned (.bool v) ∧ ((v = true ∧ J (pre ++ [(b, m, u)]) W' ∧ BelX bh n₀ W W') ∨ (v = false ∧ Jx (pre ++ [(b, m, u)]) W'))) (by
        rintro e W3 (⟨rfl, hJ3, hk3⟩ | ⟨rfl, hJx3⟩)
        · exact ⟨true, rfl, .inl ⟨rfl, hJ3, (BelX.of ((bel_q W 1).mono hn)).trans hk3⟩⟩
        · exact ⟨false, rfl, .inr ⟨rfl, hJx3⟩⟩)
      clear hR
      have hmix : Try.prog.follows .mixedOrders = true := by kernel_rfl
      gi_wp2
      gi_region_with_o (first | (refine ⟨fun h => (by cases h), hR'.mono ?_⟩; rintro e W1 ⟨v, rfl, hv⟩))
      all_goals
        clear hR' hy c0 c1 c2 c3 c4 c5
        rcases hv with ⟨rfl, hJ1, hb1⟩ | ⟨rfl, hJx3⟩
        · have hs1 : n₀ ≤ W1.heap.size := Nat.le_trans hn hb1.size
          obtain ⟨-, bn1, pl1, pr1, e1, hlt1, -, ⟨d0, d1, d2, d3, d4, d5⟩, hl1, -⟩ := repX HREP.out hb1
          cases e1
          gi_wp2
          refine ⟨trivial, fun h => (by cases h), ?_⟩
          refine (IL.out (n - 1) pl1 (pre ++ [(b, m, u)]) W1 (HG.out _) hl1 hs1 hJ1 (by have := HLEN.out; rw [allT_node] at this; simp at this ⊢; omega)).mono ?_
          rintro e W2 ⟨v, rfl, (⟨rfl, hJ2, hb2⟩ | ⟨rfl, r, hr, hx⟩)⟩
          · have hb02 : BelX bh n₀ W W2 := hb1.trans hb2
            clear d0 d1 d2 d3 d4 d5 hl1
            obtain ⟨-, bn2, pl2, pr2, e2, hlt2, -, ⟨d0, d1, d2, d3, d4, d5⟩, -, hr2⟩ := repX HREP.out hb02
            cases e2
            gi_wp2
            refine ⟨trivial, fun h => (by cases h), ?_⟩
            refine (IR.out (n - 1) pr2 (pre ++ [(b, m, u)] ++ allT l2) W2 (HG.out _) hr2 (Nat.le_trans hs1 hb2.size) hJ2 (by have := HLEN.out; rw [allT_node] at this; simp at this ⊢; omega)).mono ?_
            rintro e W3 ⟨v, rfl, hv⟩
            have HV : Hid (Walked J Jx bh n₀ W pre ([(b, m, u)] ++ (allT l2 ++ allT r2)) v W3) := Walked.last hv hb02
            clear hv
            gi_wp2
            go_ret
            exact ⟨v, rfl, HV.out⟩
          · have HV : Hid (Walked J Jx bh n₀ W pre ([(b, m, u)] ++ (allT l2 ++ allT r2)) false W2) := Walked.left hr hx
            clear hr hx
            gi_wp2
            refine ⟨trivial, ?_⟩
            gi_wp2
            go_ret
            exact ⟨false, rfl, HV.out⟩
        · have HV : Hid (Walked J Jx bh n₀ W pre ([(b, m, u)] ++ (allT l2 ++ allT r2)) false W1) := Walked.first hJx3
          gi_wp2
          go_ret
          exact ⟨false, rfl, HV.out⟩
end Go.Proofs.Ytibmhdfodmkahaa.Tuz
