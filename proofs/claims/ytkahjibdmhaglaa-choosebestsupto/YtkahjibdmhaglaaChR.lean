/- The order of offers, plain: what stands first is the best of what is left. -/
import Derived.Test.YtkahjibdmhaglaaChO
namespace Go.Proofs.Ytkahjibdmhaglaa.Ch
open Go.ChangeShapes Go.WideShapes Go.ChangeAt Go.RowKit Go.Joins Go.Deep Go.Proofs.Ytkahjibdmhaglaa.Ge
set_option linter.unusedVariables false
set_option linter.unusedSimpArgs false

/-- the best of R, by what compares -/
structure Cond (xs : List (Of × Oa)) (R : Nat → Prop) (b : Nat) : Prop where
  mem : R b
  early : ∀ j, R j → 0 ≤ earlyP xs j b
  med : ∀ j, R j → earlyP xs j b = 0 → nbrP xs j b = 0 → 0 ≤ medP xs j b
  late : ∀ j, R j → earlyP xs j b = 0 → (∀ k, R k → earlyP xs k j = 0 → nbrP xs k j = 0 → 0 ≤ medP xs k j) → 0 ≤ lateP xs j b
theorem mem_surv {X : Nat → Of} {ps : List Nat} {s i : Nat} : i ∈ surv X ps s ↔ i ∈ ps ∧ ∀ j ∈ ps, bt s (X i) (X j) = false := by
  unfold surv
  rw [List.mem_filter]
  simp
theorem cmpA_cons (k : Nat) (ks : List Nat) (x y : Of) : cmpA (k :: ks) x y = if stp k x y ≠ 0 then stp k x y else cmpA ks x y := rfl
theorem lex_left (X : Nat → Of) : ∀ (ks ps : List Nat), (∀ k ∈ ks, k < 8) → ∀ i, i ∈ leftP X (ks.map sOf) ps ↔ i ∈ ps ∧ ∀ j ∈ ps, 0 ≤ cmpA ks (X j) (X i)
  | [], ps, _, i => ⟨fun h => ⟨h, fun j _ => Int.le_refl _⟩, fun h => h.1⟩
  | k :: ks, ps, hk, i => by
    have e0 : leftP X ((k :: ks).map sOf) ps = leftP X (ks.map sOf) (surv X ps (sOf k)) := rfl
    have hb : ∀ x y, bt (sOf k) x y = false ↔ ¬ key k y < key k x := fun x y => by
      rw [bt_key k (hk k List.mem_cons_self)]
      simp
    rw [e0, lex_left X ks _ (fun q hq => hk q (List.mem_cons_of_mem _ hq)), mem_surv]
    constructor
    · rintro ⟨⟨hi, hm⟩, h⟩
      refine ⟨hi, fun j hj => ?_⟩
      have h1 := (hb _ _).1 (hm j hj)
      have h3 := cmp3_iff (key k (X j)) (key k (X i))
      rw [cmpA_cons]
      by_cases he : key k (X j) = key k (X i)
      · have h0 : stp k (X j) (X i) = 0 := h3.2.1.2 he
        rw [if_neg (by omega)]
        refine h j (mem_surv.2 ⟨hj, fun l hl => (hb _ _).2 ?_⟩)
        rw [he]
        exact (hb _ _).1 (hm l hl)
      · have h0 : 0 < stp k (X j) (X i) := h3.2.2.2 (by omega)
        rw [if_pos (by omega)]; omega
    · rintro ⟨hi, h⟩
      have hm : ∀ j ∈ ps, ¬ key k (X j) < key k (X i) := fun j hj hlt => by
        have h1 := h j hj
        have h0 : stp k (X j) (X i) < 0 := (cmp3_iff (key k (X j)) (key k (X i))).1.2 hlt
        rw [cmpA_cons, if_pos (by omega)] at h1
        omega
      refine ⟨⟨hi, fun j hj => (hb _ _).2 (hm j hj)⟩, fun j hj => ?_⟩
      obtain ⟨hj1, hj2⟩ := mem_surv.1 hj
      have h1 := (hb _ _).1 (hj2 i hi)
      have h2 := hm j hj1
      have h0 : stp k (X j) (X i) = 0 := (cmp3_iff (key k (X j)) (key k (X i))).2.1.2 (by omega)
      have h3 := h j hj1
      rw [cmpA_cons, if_neg (by omega)] at h3
      exact h3
theorem head_least {F : List Nat} {b : Nat} (h : F.Pairwise (· < ·)) (hb : b ∈ F) (hl : ∀ j ∈ F, b ≤ j) : F.head? = some b := by
  cases F with
  | nil => cases hb
  | cons x t =>
    have h1 := hl x List.mem_cons_self
    rcases List.mem_cons.1 hb with rfl | h2
    · rfl
    · have := (List.pairwise_cons.1 h).1 b h2; omega
theorem late_two (xs : List (Of × Oa)) (i j : Nat) : lateP xs i j = if cmpA [3, 4, 5, 6, 7] (atO xs i) (atO xs j) ≠ 0 then cmpA [3, 4, 5, 6, 7] (atO xs i) (atO xs j) else cmp3 (i : Int) (j : Int) := or2 _ _
theorem ord2_two (xs : List (Of × Oa)) (f : Nat → Nat) (i j : Nat) : ord2 xs f i j = if earlyP xs i j ≠ 0 then earlyP xs i j else lateP xs (f i) (f j) := or2 _ _
theorem ord1_four (xs : List (Of × Oa)) (i j : Nat) : ord1 xs i j = if earlyP xs i j ≠ 0 then earlyP xs i j else if nbrP xs i j ≠ 0 then nbrP xs i j else if medP xs i j ≠ 0 then medP xs i j else lateP xs i j := or4 _ _ _ _
theorem cond_bs {xs : List (Of × Oa)} {ps : List Nat} {b : Nat} (hp : ps.Pairwise (· < ·)) (h : Cond xs (· ∈ ps) b) : bsP (atO xs) ps = some b := by
  have hE := cm_early (xs := xs)
  have e1 : leftP (atO xs) [8, 9, 10] (evP (atO xs) ps) = leftP (atO xs) ([3, 4, 5, 6, 7].map sOf) (surv (atO xs) (leftP (atO xs) ([0, 1, 2].map sOf) ps) 5) := rfl
  have hF : ∀ j, j ∈ leftP (atO xs) [8, 9, 10] (evP (atO xs) ps) ↔ j ∈ surv (atO xs) (leftP (atO xs) ([0, 1, 2].map sOf) ps) 5 ∧ ∀ k ∈ surv (atO xs) (leftP (atO xs) ([0, 1, 2].map sOf) ps) 5, 0 ≤ cmpA [3, 4, 5, 6, 7] (atO xs k) (atO xs j) := fun j => by
    rw [e1]
    exact lex_left (atO xs) [3, 4, 5, 6, 7] _ (by decide) j
  have hG1 : ∀ j, j ∈ leftP (atO xs) ([0, 1, 2].map sOf) ps ↔ j ∈ ps ∧ ∀ k ∈ ps, 0 ≤ earlyP xs k j := fun j => lex_left (atO xs) [0, 1, 2] ps (by decide) j
  have hb5 : ∀ x y, bt 5 x y = false ↔ ¬ (nbP x = nbP y ∧ y.med < x.med) := fun x y => by
    show (decide (nbP x = nbP y) && decide (y.med < x.med)) = false ↔ _
    simp
  have hbG1 : b ∈ leftP (atO xs) ([0, 1, 2].map sOf) ps := (hG1 b).2 ⟨h.mem, h.early⟩
  have hbG2 : b ∈ surv (atO xs) (leftP (atO xs) ([0, 1, 2].map sOf) ps) 5 := by
    refine mem_surv.2 ⟨hbG1, fun j hj => (hb5 _ _).2 ?_⟩
    rintro ⟨k1, k2⟩
    obtain ⟨j1, j2⟩ := (hG1 j).1 hj
    have e0 : earlyP xs j b = 0 := by
      have a1 := h.early j j1
      have a2 := hE.le.2 (j2 b h.mem)
      omega
    have n0 : nbrP xs j b = 0 := (cmp3_iff _ _).2.1.2 k1.symm
    have m0 := h.med j j1 e0 n0
    have m1 : medP xs j b < 0 := (cmp3_iff _ _).1.2 k2
    omega
  have hbF : b ∈ leftP (atO xs) [8, 9, 10] (evP (atO xs) ps) := by
    refine (hF b).2 ⟨hbG2, fun j hj => ?_⟩
    obtain ⟨hj1, hj2⟩ := mem_surv.1 hj
    obtain ⟨j1, j2⟩ := (hG1 j).1 hj1
    have e0 : earlyP xs j b = 0 := by
      have a1 := h.early j j1
      have a2 := hE.le.2 (j2 b h.mem)
      omega
    have l0 := h.late j j1 e0 (fun k hk hke hkn => by
      have hkG : k ∈ leftP (atO xs) ([0, 1, 2].map sOf) ps := (hG1 k).2 ⟨hk, fun l hl => by
        have a1 := j2 l hl
        have a2 := hE.trans k j l (by omega) (hE.le.2 a1)
        exact hE.le.1 a2⟩
      have a3 := (hb5 _ _).1 (hj2 k hkG)
      have a4 : nbP (atO xs j) = nbP (atO xs k) := ((cmp3_iff _ _).2.1.1 hkn).symm
      have a5 : ¬ (atO xs k).med < (atO xs j).med := fun c => a3 ⟨a4, c⟩
      have a6 := cmp3_iff (atO xs k).med (atO xs j).med
      show 0 ≤ cmp3 _ _
      omega)
    rw [late_two] at l0
    by_cases hc : cmpA [3, 4, 5, 6, 7] (atO xs j) (atO xs b) = 0
    · omega
    · rw [if_pos hc] at l0; exact l0
  have hCM := cm_cmpA xs [3, 4, 5, 6, 7]
  refine head_least ?_ hbF (fun j hj => ?_)
  · have hsub : (leftP (atO xs) [8, 9, 10] (evP (atO xs) ps)).Sublist ps := (left_sub (atO xs) [8, 9, 10] _).trans (left_sub (atO xs) [2, 3, 4, 5, 6, 7] ps)
    exact hp.sublist hsub
  · obtain ⟨k1, k2⟩ := (hF j).1 hj
    obtain ⟨b1, b2⟩ := (hF b).1 hbF
    have a1 := k2 b hbG2
    have a2 := b2 j k1
    have a3 := (hCM.le (x := b) (y := j)).2 a2
    have c0 : cmpA [3, 4, 5, 6, 7] (atO xs b) (atO xs j) = 0 := by omega
    have c1 : cmpA [3, 4, 5, 6, 7] (atO xs j) (atO xs b) = 0 := hCM.zero c0
    -- the late comparison decides by the places
    obtain ⟨hj1, hj2⟩ := mem_surv.1 k1
    obtain ⟨j1, j2⟩ := (hG1 j).1 hj1
    have e0 : earlyP xs j b = 0 := by
      have a1 := h.early j j1
      have a2 := hE.le.2 (j2 b h.mem)
      omega
    have l0 := h.late j j1 e0 (fun k hk hke hkn => by
      have hkG : k ∈ leftP (atO xs) ([0, 1, 2].map sOf) ps := (hG1 k).2 ⟨hk, fun l hl => by
        have a1 := j2 l hl
        have a2 := hE.trans k j l (by omega) (hE.le.2 a1)
        exact hE.le.1 a2⟩
      have a3 := (hb5 _ _).1 (hj2 k hkG)
      have a4 : nbP (atO xs j) = nbP (atO xs k) := ((cmp3_iff _ _).2.1.1 hkn).symm
      have a5 : ¬ (atO xs k).med < (atO xs j).med := fun c => a3 ⟨a4, c⟩
      have a6 := cmp3_iff (atO xs k).med (atO xs j).med
      show 0 ≤ cmp3 _ _
      omega)
    rw [late_two, if_neg (by omega)] at l0
    have := cmp3_iff (j : Int) (b : Int)
    omega
end Go.Proofs.Ytkahjibdmhaglaa.Ch
