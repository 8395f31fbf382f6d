/- rising.Set: what is gathered; slices.Sort, Compact, Clone of own lists. -/
import Derived.Test.YthhdpfgepjmgkaaDjP
import Derived.Test.YthhdpfgepjmgkaaShelf
import Derived.Sort.OwnSortedInts
namespace Go.Proofs.Ythhdpfgepjmgkaa.Dj
open Go.ChangeShapes Go.WideShapes Go.ChangeAt Go.RowKit Go.Joins Go.Deep Go.Sort Go.Proofs.Ythhdpfgepjmgkaa.Ge
set_option linter.unusedVariables false
set_option linter.unusedSimpArgs false

theorem cs_EI (xs : List Int) : EI.cs xs = xs.map (Value.int .i64) := by
  induction xs with
  | nil => rfl
  | cons x xs ih =>
    show [Value.int .i64 x] ++ EI.cs xs = _
    rw [ih]
    rfl
/-- what stands in a sorted list, each once -/
theorem compact_sorted (zs : List Int) (h : zs.Pairwise (· ≤ ·)) : (Lib.compact zs).Pairwise (· < ·) ∧ ∀ x, x ∈ Lib.compact zs ↔ x ∈ zs := by
  have hget : ∀ i (hi : i < zs.length), zs.toArray[i]! = zs[i] := fun i hi => by simp [hi]
  have hmono : ∀ i j (hij : i ≤ j) (hj : j < zs.length), zs[i]'(by omega) ≤ zs[j] := fun i j hij hj => by
    by_cases e : i = j
    · subst e; exact Int.le_refl _
    · exact List.pairwise_iff_getElem.1 h i j (by omega) hj (by omega)
  have H : ∀ m, m ≤ zs.length → (Lib.compactUpTo zs.toArray m).Pairwise (· < ·) ∧ (∀ x, x ∈ Lib.compactUpTo zs.toArray m ↔ ∃ j, ∃ hj : j < zs.length, j < m ∧ zs[j] = x) := by
    intro m
    induction m with
    | zero => intro _; exact ⟨by simp [Lib.compactUpTo], fun x => ⟨fun c => by simp [Lib.compactUpTo] at c, fun ⟨j, _, c, _⟩ => absurd c (by omega)⟩⟩
    | succ m ih =>
      intro hm
      obtain ⟨h1, h2⟩ := ih (by omega)
      rw [Lib.compactUpTo_succ]
      by_cases hk : Lib.keeps zs.toArray m = true
      · rw [if_pos hk, hget m (by omega)]
        have hlt : ∀ x ∈ Lib.compactUpTo zs.toArray m, x < zs[m] := fun x hx => by
          obtain ⟨j, hj, hjm, rfl⟩ := (h2 x).1 hx
          have hm1 : zs[j] ≤ zs[m - 1]'(by omega) := hmono j (m - 1) (by omega) (by omega)
          have hm2 : zs[m - 1]'(by omega) ≤ zs[m] := hmono (m - 1) m (by omega) (by omega)
          have hm3 : zs[m - 1]'(by omega) ≠ zs[m] := fun c => by
            unfold Lib.keeps at hk
            have := hget m (by omega)
            have h9 := hget (m - 1) (by omega)
            simp [show ¬ m = 0 by omega, this, h9, c] at hk
          omega
        refine ⟨?_, fun x => ?_⟩
        · rw [List.pairwise_append]
          refine ⟨h1, List.pairwise_singleton _ _, fun a ha b hb => ?_⟩
          rw [List.mem_singleton] at hb
          subst hb
          exact hlt a ha
        · rw [List.mem_append, List.mem_singleton, h2]
          constructor
          · rintro (⟨j, hj, hjm, e⟩ | e)
            · exact ⟨j, hj, by omega, e⟩
            · exact ⟨m, by omega, by omega, e.symm⟩
          · rintro ⟨j, hj, hjm, e⟩
            by_cases c : j = m
            · subst c; exact .inr e.symm
            · exact .inl ⟨j, hj, by omega, e⟩
      · rw [if_neg hk, List.append_nil]
        refine ⟨h1, fun x => ?_⟩
        rw [h2]
        constructor
        · rintro ⟨j, hj, hjm, e⟩
          exact ⟨j, hj, by omega, e⟩
        · rintro ⟨j, hj, hjm, e⟩
          by_cases c : j = m
          · subst c
            have hj0 : ¬ j = 0 := fun c => hk (by unfold Lib.keeps; simp [c])
            refine ⟨j - 1, by omega, by omega, ?_⟩
            rw [← e]
            have h8 := hget j hj
            have h9 := hget (j - 1) (by omega)
            unfold Lib.keeps at hk
            simp [hj0, h8, h9] at hk
            exact hk.symm
          · exact ⟨j, hj, by omega, e⟩
  obtain ⟨h1, h2⟩ := H zs.length (Nat.le_refl _)
  refine ⟨h1, fun x => ?_⟩
  show x ∈ Lib.compactUpTo zs.toArray zs.length ↔ _
  rw [h2]
  constructor
  · rintro ⟨j, hj, _, e⟩
    rw [← e]
    exact List.getElem_mem hj
  · intro hx
    obtain ⟨j, hj, e⟩ := List.getElem_of_mem hx
    exact ⟨j, hj, hj, e⟩
theorem own_blk {N g n c : Nat} {W : World} {xs : List Int} (h : OwnL EI N W (.slice (some ⟨g, 0, none⟩) n c) xs) : ∃ cur, W.heap[g]? = some (.cells cur 3 (0, 0)) ∧ n = xs.length ∧ n ≤ c ∧ c ≤ maxLen ∧ cur.size = c * 1 ∧ cur.toList.take xs.length = xs.map (Value.int .i64) ∧ N ≤ g := by
  have hn := h.lst.2
  rcases h.row.2 with ⟨h1, -⟩ | ⟨g', c', cur, h1, h2, h3, h4, h5, h6, h7⟩
  · cases h1
  · cases h1
    have e1 : EI.k = 1 := rfl
    rw [e1, Nat.mul_one, cs_EI] at h7
    exact ⟨cur, h3, hn.symm, by omega, h5, h6, h7, h2⟩
def SoPost (w : World) (N : Nat) (a : Option Addr) (n c : Nat) (xs : List Int) (e : Ending) (w' : World) : Prop := e = .returned (.tuple #[]) ∧ OwnL EI N w' (.slice a n c) (xs.mergeSort fun x y => decide (x ≤ y)) ∧ w.grownBy w' (Value.slice a n c).ownBlock
theorem sort_any (N : Nat) (a : Option Addr) (n c : Nat) (xs : List Int) (w : World) (h : OwnL EI N w (.slice a n c) xs) (hn : n < 1000000000) : Calls Try.prog 67 #[.slice a n c] w (SoPost w N a n c xs) := by
  rcases h.row.2 with ⟨h1, h2⟩ | ⟨g, c', cur, h1, -⟩
  · cases h1
    refine (Try.slices_Sort_int_none none 0 w).mono ?_
    rintro e w' ⟨rfl, rfl⟩
    have e0 : xs = [] := List.length_eq_zero_iff.1 h2
    subst e0
    exact ⟨rfl, by rw [List.mergeSort_nil]; exact h, ⟨rfl, rfl, rfl, Nat.le_refl _, fun _ _ _ => rfl⟩⟩
  · cases h1
    obtain ⟨cur, hb, -, hnc, hcm, hcs, htk, hN⟩ := own_blk h
    refine (Try.slices_Sort_int g 0 c xs w (holds_of_blockI hb htk) (h.row.lt g rfl).2 (by omega)).mono ?_
    rintro e w' ⟨rfl, nn, os, rfl⟩
    refine ⟨rfl, ⟨?_⟩, grownBy_sortedI _⟩
    have hl : (xs.mergeSort fun x y => decide (x ≤ y)).length = xs.length := List.length_mergeSort xs
    have := ownsRow_sortedI (n := nn) (os := os) hl hN hb hnc hcm hcs
    rw [cs_EI, hl]
    exact this
def CoPost (w : World) (N : Nat) (a : Option Addr) (c : Nat) (xs : List Int) (e : Ending) (w' : World) : Prop := e = .returned (.slice a (Lib.compact xs).length c) ∧ OwnL EI N w' (.slice a (Lib.compact xs).length c) (Lib.compact xs) ∧ w.grownBy w' (Value.slice a (Lib.compact xs).length c).ownBlock
theorem comp_any (N : Nat) (a : Option Addr) (n c : Nat) (xs : List Int) (w : World) (h : OwnL EI N w (.slice a n c) xs) (hn : n < 1000000000) : Calls Try.prog 68 #[.slice a n c] w (CoPost w N a c xs) := by
  rcases h.row.2 with ⟨h1, h2⟩ | ⟨g, c', cur, h1, -⟩
  · cases h1
    refine (Try.slices_Compact_int_empty none 0 w).mono ?_
    rintro e w' ⟨rfl, rfl⟩
    have e0 : xs = [] := List.length_eq_zero_iff.1 h2
    subst e0
    exact ⟨rfl, h, ⟨rfl, rfl, rfl, Nat.le_refl _, fun _ _ _ => rfl⟩⟩
  · cases h1
    obtain ⟨cur, hb, -, hnc, hcm, hcs, htk, hN⟩ := own_blk h
    refine (Try.slices_Compact_int g 0 c xs w (holds_of_blockI hb htk) (by omega) hnc).mono ?_
    rintro e w' ⟨rfl, q, hw⟩
    have hcl := Lib.compact_length_le xs
    have hlen : (Lib.compact xs ++ List.replicate (xs.length - (Lib.compact xs).length) 0).length = xs.length := by simp; omega
    have hw' : w' = grow (putRow (Value.int .i64) (Sort.ahead w q) g 0 (Lib.compact xs ++ List.replicate (xs.length - (Lib.compact xs).length) 0).toArray) #[] := by rw [hw, grow_empty]
    rw [hw']
    have h5 := ownsRow_sortedI (w := w) (base := N) (g := g) (cap := c) (n := q) (os := #[]) (ss := xs) hlen hN hb hnc hcm hcs
    have h6 : OwnL EI N (grow (putRow (Value.int .i64) (Sort.ahead w q) g 0 (Lib.compact xs ++ List.replicate (xs.length - (Lib.compact xs).length) 0).toArray) #[]) (.slice (some ⟨g, 0, none⟩) xs.length c) (Lib.compact xs ++ List.replicate (xs.length - (Lib.compact xs).length) 0) := ⟨by rw [cs_EI, hlen]; exact h5⟩
    have h7 := own_take h6 hcl
    rw [List.take_left' rfl] at h7
    exact ⟨rfl, h7, grownBy_sortedI _⟩
theorem clone_any (a : Option Addr) (n c : Nat) (xs : List Int) (w : World) (hn : xs.length = n) (hb : n < 1000000000) (h : Lst EI w a xs) (hz : a = none → n = 0 ∧ c = 0) : Calls Try.prog 45 #[.slice a n c] w fun e w' => ∃ v', e = .returned v' ∧ OwnL EI w.heap.size w' v' xs ∧ Below w.heap.size w w' := by
  cases a with
  | none =>
    obtain ⟨rfl, rfl⟩ := hz rfl
    refine (Try.slices_Clone_int_nil 0 0 w).mono ?_
    rintro e w' ⟨rfl, rfl⟩
    have e0 : xs = [] := List.length_eq_zero_iff.1 hn
    subst e0
    exact ⟨_, rfl, OwnL.nil _ _ _, Below.refl _ _⟩
  | some p =>
    obtain ⟨b, o, f⟩ := p
    by_cases h0 : n = 0
    · subst h0
      have e0 : xs = [] := List.length_eq_zero_iff.1 hn
      subst e0
      refine (Try.slices_Clone_int_zero ⟨b, o, f⟩ c w).mono ?_
      rintro e w' ⟨v', rfl, h1, -, h2⟩
      exact ⟨v', rfl, ⟨h1⟩, h2⟩
    · obtain ⟨b', o', e1, -, -⟩ := h.cells 0 (by omega)
      cases e1
      refine (Try.slices_Clone_int b o n c xs w (by omega) (by omega) (fun j hj => ?_)).mono ?_
      · obtain ⟨b', o', e1, -, hc⟩ := h.cells j hj
        cases e1
        have h5 := hc 0 (by decide)
        have e2 : EI.k = 1 := rfl
        rw [e2, Nat.mul_one, Nat.add_zero] at h5
        rw [h5]
        simp [EI, List.getD, hj]
      · rintro e w' ⟨v', rfl, h1, -, h2⟩
        rw [List.take_of_length_le (by omega)] at h1
        exact ⟨v', rfl, ⟨by rw [cs_EI, hn]; exact h1⟩, h2⟩
end Go.Proofs.Ythhdpfgepjmgkaa.Dj
