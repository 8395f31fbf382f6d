/- walk: what it gives. -/
import Derived.Test.YtibmhdfodmkahaaTrL
import Derived.Test.YtibmhdfodmkahaaTrW
namespace Go.Proofs.Ytibmhdfodmkahaa.Tri
open Go.ChangeShapes Go.WideShapes Go.ChangeAt Go.RowKit Go.Shelf Go.Proofs.Ytibmhdfodmkahaa.PM Go.Proofs.Ytibmhdfodmkahaa.TrM Go.Proofs.Ytibmhdfodmkahaa.Ask
set_option linter.unusedVariables false
attribute [local go_sem] Oper.semAt_some

theorem RoundIn.wide {n m : Nat} {P : Program} {l : Nat} {f : FuncId} {tmps : Array Value} {assign body : Code} {w : World} {R : Ending → World → Prop} (h : RoundIn Fence.wide n P l f tmps assign body w R) : RoundIn Fence.wide m P l f tmps assign body w R :=
  ⟨h.1, fun c cs _ => h.2 c cs (room_wide _)⟩
theorem YieldAt.wide {n m : Nat} {P : Program} {l : Nat} {args : Array Value} {W : World} {R : Ending → World → Prop} (h : YieldAt Fence.wide n P l args W R) : YieldAt Fence.wide m P l args W R := by
  obtain ⟨fn, tmps, assign, body, hy, hR⟩ := h
  exact ⟨fn, tmps, assign, body, hy, RoundIn.wide hR⟩

/-- what a caller's loop gives for each item -/
def Gives (P : Program) (n l n₀ N : Nat) (J Jx : List (Int × Int × Int) → World → Prop) : Prop :=
  ∀ pre y W1, J pre W1 → pre.length < N → YieldAt Fence.wide n P l (enc3 y) W1 fun e W' => (e = .returned (.bool true) ∧ J (pre ++ [y]) W' ∧ Below n₀ W1 W') ∨ (e = .returned (.bool false) ∧ Jx (pre ++ [y]) W')
theorem Gives.wide {P : Program} {n m l n₀ N : Nat} {J Jx : List (Int × Int × Int) → World → Prop} (h : Gives P n l n₀ N J Jx) : Gives P m l n₀ N J Jx := fun pre y W1 hj hl => YieldAt.wide (h pre y W1 hj hl)

/-- how a walk ends -/
def Walked (J Jx : List (Int × Int × Int) → World → Prop) (n₀ : Nat) (W : World) (pre all : List (Int × Int × Int)) (v : Bool) (W' : World) : Prop :=
  (v = true ∧ J (pre ++ all) W' ∧ Below n₀ W W') ∨ (v = false ∧ ∃ r, r <+: all ∧ Jx (pre ++ r) W')

theorem Walked.last {J Jx : List (Int × Int × Int) → World → Prop} {n₀ : Nat} {W W2 W3 : World} {pre hd la ra : List (Int × Int × Int)} {v : Bool} (h : Walked J Jx n₀ W2 (pre ++ hd ++ la) ra v W3) (hb : Below n₀ W W2) : Walked J Jx n₀ W pre (hd ++ (la ++ ra)) v W3 := by
  rcases h with ⟨rfl, h1, h2⟩ | ⟨rfl, r, ⟨t, ht⟩, hx⟩
  · exact .inl ⟨rfl, by simpa [List.append_assoc] using h1, hb.trans h2⟩
  · exact .inr ⟨rfl, hd ++ (la ++ r), ⟨t, by simp [← ht]⟩, by simpa [List.append_assoc] using hx⟩
theorem Walked.left {J Jx : List (Int × Int × Int) → World → Prop} {n₀ : Nat} {W W2 : World} {pre hd la ra r : List (Int × Int × Int)} (hr : r <+: la) (hx : Jx (pre ++ hd ++ r) W2) : Walked J Jx n₀ W pre (hd ++ (la ++ ra)) false W2 := by
  obtain ⟨t, ht⟩ := hr
  exact .inr ⟨rfl, hd ++ r, ⟨t ++ ra, by simp [← ht]⟩, by simpa [List.append_assoc] using hx⟩
theorem Walked.first {J Jx : List (Int × Int × Int) → World → Prop} {n₀ : Nat} {W W2 : World} {pre la ra : List (Int × Int × Int)} {y : Int × Int × Int} (hx : Jx (pre ++ [y]) W2) : Walked J Jx n₀ W pre ([y] ++ (la ++ ra)) false W2 :=
  .inr ⟨rfl, [y], ⟨la ++ ra, rfl⟩, hx⟩

theorem allT_node (b m u : Int) (h : Bool) (l r : Tr) : allT (.node b m u h l r) = (if h = true then [(b, m, u)] else []) ++ (allT l ++ allT r) := rfl

set_option maxRecDepth 100000 in
set_option maxHeartbeats 4000000 in
theorem walk1 (J Jx : List (Int × Int × Int) → World → Prop) (hJ : ∀ s A B, J s A → Below A.heap.size A B → J s B) (l n₀ N : Nat) (s : Tr) : ∀ (n : Nat) (q : Option Addr) (pre : List (Int × Int × Int)) (W : World), Gives Try.prog n l n₀ N J Jx → Rep (fun b => b < n₀) W s q → n₀ ≤ W.heap.size → J pre W → pre.length + (allT s).length ≤ N →
    CallsIn Fence.wide n Try.prog 50 #[.pointer q, .func (.yield l) #[] #[]] W fun e W' => ∃ v, e = .returned (.bool v) ∧ Walked J Jx n₀ W pre (allT s) v W' := by
  induction s with
  | nil =>
    intro n q pre W hG hrep hn h0 hlen
    obtain rfl : q = none := hrep
    refine callsIn_of_wp Try.func50 rfl trivial ?_ rfl
    simp only [Try.ntmps50, List.size_toArray, List.length_cons, List.length_nil, Nat.reduceAdd, Nat.reduceSub, Array.replicate_succ, Array.replicate_zero, List.push_toArray, List.append_toArray, List.nil_append, List.cons_append]
    gi_wp2
    go_ret
    exact ⟨true, rfl, .inl ⟨rfl, by simpa [allT] using h0, Below.refl _ _⟩⟩
  | node b m u h l2 r2 il ir =>
    intro n q pre W hG hrep hn h0 hlen
    have HG : Hid (∀ m, Gives Try.prog m l n₀ N J Jx) := fun m => hG.wide
    have HREP : Hid (Rep (fun b => b < n₀) W (.node b m u h l2 r2) q) := hrep
    have HLEN : Hid (pre.length + (allT (.node b m u h l2 r2)).length ≤ N) := hlen
    have H0 : Hid (J pre W) := h0
    have IL : Hid (∀ (n : Nat) (q : Option Addr) (pre : List (Int × Int × Int)) (W : World), _) := il
    have IR : Hid (∀ (n : Nat) (q : Option Addr) (pre : List (Int × Int × Int)) (W : World), _) := ir
    clear hG hlen h0 il ir
    obtain ⟨-, bn, pl, pr, rfl, hlt, hok, ⟨c0, c1, c2, c3, c4, c5⟩, -, -⟩ := hrep
    refine callsIn_of_wp Try.func50 rfl trivial ?_ rfl
    simp only [Try.ntmps50, List.size_toArray, List.length_cons, List.length_nil, Nat.reduceAdd, Nat.reduceSub, Array.replicate_succ, Array.replicate_zero, List.push_toArray, List.append_toArray, List.nil_append, List.cons_append]
    cases h with
    | false =>
      gi_wp2
      refine wpIn_wide.2 ?_
      go_quiet (fail)
      obtain ⟨W1, hW1⟩ : ∃ W1, W.drewN nq = W1 := ⟨_, rfl⟩
      have hb1 : Below n₀ W W1 := by rw [← hW1]; exact (bel_q W nq).mono hn
      have hs1 : n₀ ≤ W1.heap.size := Nat.le_trans hn hb1.size
      have hJ1 : J (pre ++ []) W1 := by rw [← hW1, List.append_nil]; exact hJ _ _ _ H0.out (bel_q W nq)
      rw [hW1]
      clear hW1 c0 c1 c2 c3 c4 c5
      obtain ⟨-, bn1, pl1, pr1, e1, hlt1, -, ⟨d0, d1, d2, d3, d4, d5⟩, hl1, -⟩ := HREP.out.under hb1
      cases e1
      gi_wp2
      refine ⟨trivial, fun h => (by cases h), ?_⟩
      refine (IL.out (n - 1) pl1 (pre ++ []) W1 (HG.out _) hl1 hs1 hJ1 (by have := HLEN.out; rw [allT_node] at this; simp at this ⊢; omega)).mono ?_
      rintro e W2 ⟨v, rfl, (⟨rfl, hJ2, hb2⟩ | ⟨rfl, r, hr, hx⟩)⟩
      · have hb02 : Below n₀ W W2 := hb1.trans hb2
        clear d0 d1 d2 d3 d4 d5 hl1
        obtain ⟨-, bn2, pl2, pr2, e2, hlt2, -, ⟨d0, d1, d2, d3, d4, d5⟩, -, hr2⟩ := HREP.out.under hb02
        cases e2
        gi_wp2
        refine ⟨trivial, fun h => (by cases h), ?_⟩
        refine (IR.out (n - 1) pr2 (pre ++ [] ++ allT l2) W2 (HG.out _) hr2 (Nat.le_trans hs1 hb2.size) hJ2 (by have := HLEN.out; rw [allT_node] at this; simp at this ⊢; omega)).mono ?_
        rintro e W3 ⟨v, rfl, hv⟩
        have HV : Hid (Walked J Jx n₀ W pre ([] ++ (allT l2 ++ allT r2)) v W3) := Walked.last hv hb02
        clear hv
        gi_wp2
        go_ret
        exact ⟨v, rfl, HV.out⟩
      · have HV : Hid (Walked J Jx n₀ W pre ([] ++ (allT l2 ++ allT r2)) false W2) := Walked.left hr hx
        clear hr hx
        gi_wp2
        refine ⟨trivial, ?_⟩
        gi_wp2
        go_ret
        exact ⟨false, rfl, HV.out⟩
    | true =>
      obtain ⟨fn, tmps, assign, body, hy, hR⟩ := HG.out (n - 1) pre (b, m, u) W.drew (hJ _ _ _ H0.out (bel_q W 1)) (by have := HLEN.out; rw [allT_node] at this; simp at this; omega)
      dsimp only [enc3] at hy
      have hR' := hR.mono (R' := fun e W' => ∃ v, e = .returned (.bool v) ∧ ((v = true ∧ J (pre ++ [(b, m, u)]) W' ∧ Below n₀ W W') ∨ (v = false ∧ Jx (pre ++ [(b, m, u)]) W'))) (by
        rintro e W3 (⟨rfl, hJ3, hk3⟩ | ⟨rfl, hJx3⟩)
        · exact ⟨true, rfl, .inl ⟨rfl, hJ3, ((bel_q W 1).mono hn).trans hk3⟩⟩
        · exact ⟨false, rfl, .inr ⟨rfl, hJx3⟩⟩)
      clear hR
      have hmix : Try.prog.follows .mixedOrders = true := by kernel_rfl
      gi_wp2
      gi_region_with_o (first | (refine ⟨fun h => (by cases h), hR'.mono ?_⟩; rintro e W1 ⟨v, rfl, hv⟩))
      all_goals
        clear hR' hy c0 c1 c2 c3 c4 c5
        rcases hv with ⟨rfl, hJ1, hb1⟩ | ⟨rfl, hJx3⟩
        · have hs1 : n₀ ≤ W1.heap.size := Nat.le_trans hn hb1.size
          obtain ⟨-, bn1, pl1, pr1, e1, hlt1, -, ⟨d0, d1, d2, d3, d4, d5⟩, hl1, -⟩ := HREP.out.under hb1
          cases e1
          gi_wp2
          refine ⟨trivial, fun h => (by cases h), ?_⟩
          refine (IL.out (n - 1) pl1 (pre ++ [(b, m, u)]) W1 (HG.out _) hl1 hs1 hJ1 (by have := HLEN.out; rw [allT_node] at this; simp at this ⊢; omega)).mono ?_
          rintro e W2 ⟨v, rfl, (⟨rfl, hJ2, hb2⟩ | ⟨rfl, r, hr, hx⟩)⟩
          · have hb02 : Below n₀ W W2 := hb1.trans hb2
            clear d0 d1 d2 d3 d4 d5 hl1
            obtain ⟨-, bn2, pl2, pr2, e2, hlt2, -, ⟨d0, d1, d2, d3, d4, d5⟩, -, hr2⟩ := HREP.out.under hb02
            cases e2
            gi_wp2
            refine ⟨trivial, fun h => (by cases h), ?_⟩
            refine (IR.out (n - 1) pr2 (pre ++ [(b, m, u)] ++ allT l2) W2 (HG.out _) hr2 (Nat.le_trans hs1 hb2.size) hJ2 (by have := HLEN.out; rw [allT_node] at this; simp at this ⊢; omega)).mono ?_
            rintro e W3 ⟨v, rfl, hv⟩
            have HV : Hid (Walked J Jx n₀ W pre ([(b, m, u)] ++ (allT l2 ++ allT r2)) v W3) := Walked.last hv hb02
            clear hv
            gi_wp2
            go_ret
            exact ⟨v, rfl, HV.out⟩
          · have HV : Hid (Walked J Jx n₀ W pre ([(b, m, u)] ++ (allT l2 ++ allT r2)) false W2) := Walked.left hr hx
            clear hr hx
            gi_wp2
            refine ⟨trivial, ?_⟩
            gi_wp2
            go_ret
            exact ⟨false, rfl, HV.out⟩
        · have HV : Hid (Walked J Jx n₀ W pre ([(b, m, u)] ++ (allT l2 ++ allT r2)) false W1) := Walked.first hJx3
          gi_wp2
          go_ret
          exact ⟨false, rfl, HV.out⟩
end Go.Proofs.Ytibmhdfodmkahaa.Tri
