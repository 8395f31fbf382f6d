/- The order of offers, plain: what compares, is a weak order. -/
import Derived.Test.YtkahjibdmhaglaaChN
namespace Go.Proofs.Ytkahjibdmhaglaa.Ch
open Go.ChangeShapes Go.WideShapes Go.ChangeAt Go.RowKit Go.Joins Go.Deep Go.Proofs.Ytkahjibdmhaglaa.Ge
open Go.Sort hiding Below
set_option linter.unusedVariables false
set_option linter.unusedSimpArgs false

structure Cm {α : Type} (c : α → α → Int) : Prop where
  anti : ∀ x y, c x y < 0 ↔ 0 < c y x
  trans : ∀ x y z, c x y ≤ 0 → c y z ≤ 0 → c x z ≤ 0
section
variable {α β : Type} {c c1 c2 : α → α → Int}
theorem Cm.refl (h : Cm c) (x : α) : c x x = 0 := by have := h.anti x x; omega
theorem Cm.zero (h : Cm c) {x y : α} (h0 : c x y = 0) : c y x = 0 := by have h1 := h.anti x y; have h2 := h.anti y x; omega
theorem Cm.le (h : Cm c) {x y : α} : c x y ≤ 0 ↔ 0 ≤ c y x := by have h1 := h.anti x y; have h2 := h.anti y x; omega
theorem Cm.eqt (h : Cm c) {x y z : α} (h1 : c x y = 0) (h2 : c y z = 0) : c x z = 0 := by
  have a1 := h.trans x y z (by omega) (by omega)
  have a2 := h.trans z y x (by rw [h.zero h2]; omega) (by rw [h.zero h1]; omega)
  have a3 := h.anti x z
  omega
theorem Cm.lt_le (h : Cm c) {x y z : α} (h1 : c x y < 0) (h2 : c y z ≤ 0) : c x z < 0 := by
  have a1 := h.trans x y z (by omega) h2
  have a2 := h.anti x z
  have a3 := h.anti z x
  by_cases h0 : c x z = 0
  · have a4 := h.trans y z x h2 (by rw [h.zero h0]; omega)
    have a5 := h.anti x y
    omega
  · omega
theorem cmp3_iff (x y : Int) : (cmp3 x y < 0 ↔ x < y) ∧ (cmp3 x y = 0 ↔ x = y) ∧ (0 < cmp3 x y ↔ y < x) := by
  unfold cmp3
  split
  · omega
  · split <;> omega
theorem cm_key (f : α → Int) : Cm (fun x y => cmp3 (f x) (f y)) where
  anti x y := by have h1 := cmp3_iff (f x) (f y); have h2 := cmp3_iff (f y) (f x); omega
  trans x y z h1 h2 := by have a1 := cmp3_iff (f x) (f y); have a2 := cmp3_iff (f y) (f z); have a3 := cmp3_iff (f x) (f z); omega
theorem cm_none : Cm (fun _ _ : α => (0 : Int)) := ⟨fun x y => by omega, fun x y z _ _ => by omega⟩
theorem cm_two (h1 : Cm c1) (h2 : Cm c2) : Cm (fun x y => if c1 x y ≠ 0 then c1 x y else c2 x y) where
  anti x y := by
    have a1 := h1.anti x y
    have a2 := h1.anti y x
    have a3 := h2.anti x y
    show (if c1 x y ≠ 0 then c1 x y else c2 x y) < 0 ↔ 0 < (if c1 y x ≠ 0 then c1 y x else c2 y x)
    by_cases h0 : c1 x y = 0
    · rw [if_neg (by omega), if_neg (by rw [h1.zero h0]; omega)]; exact a3
    · rw [if_pos h0, if_pos (fun e => h0 (h1.zero e))]; exact a1
  trans x y z k1 k2 := by
    show (if c1 x z ≠ 0 then c1 x z else c2 x z) ≤ 0
    have k1' : (if c1 x y ≠ 0 then c1 x y else c2 x y) ≤ 0 := k1
    have k2' : (if c1 y z ≠ 0 then c1 y z else c2 y z) ≤ 0 := k2
    by_cases h0 : c1 x y = 0
    · rw [if_neg (by omega)] at k1'
      by_cases h3 : c1 y z = 0
      · rw [if_neg (by omega)] at k2'
        rw [if_neg (by rw [h1.eqt h0 h3]; omega)]
        exact h2.trans x y z k1' k2'
      · rw [if_pos h3] at k2'
        have a1 := h1.trans x y z (by omega) k2'
        have a2 : c1 x z ≠ 0 := fun e => h3 (h1.eqt (h1.zero h0) e)
        rw [if_pos a2]; exact a1
    · rw [if_pos h0] at k1'
      have a0 : c1 y z ≤ 0 := by
        by_cases h3 : c1 y z = 0
        · omega
        · rw [if_pos h3] at k2'; exact k2'
      have a1 := h1.lt_le (x := x) (y := y) (z := z) (by omega) a0
      rw [if_pos (by omega)]; omega
theorem cm_or : ∀ cs : List (α → α → Int), (∀ c ∈ cs, Cm c) → Cm (fun x y => orP (cs.map (fun c => c x y)))
  | [], _ => cm_none
  | c :: cs, h => cm_two (h c List.mem_cons_self) (cm_or cs (fun d hd => h d (List.mem_cons_of_mem _ hd)))
theorem cm_of (f : β → α) (h : Cm c) : Cm (fun x y => c (f x) (f y)) := ⟨fun x y => h.anti _ _, fun x y z => h.trans _ _ _⟩
theorem swo_cm (h : Cm c) : SWO (ltOf c) where
  irrefl x := by
    show decide (c x x < 0) = false
    rw [h.refl]; rfl
  trans x y z h1 h2 := by
    have a1 : c x y < 0 := of_decide_eq_true h1
    have a2 : c y z < 0 := of_decide_eq_true h2
    exact decide_eq_true (h.lt_le a1 (by omega))
  ntrans x y z h1 h2 := by
    have a1 : ¬ c x y < 0 := of_decide_eq_false h1
    have a2 : ¬ c y z < 0 := of_decide_eq_false h2
    have a3 := h.trans z y x (h.le.2 (by omega)) (h.le.2 (by omega))
    exact decide_eq_false (by have := h.le.1 a3; omega)
end
theorem or2 (a b : Int) : orP [a, b] = if a ≠ 0 then a else b := by
  by_cases h : a = 0 <;> by_cases h2 : b = 0 <;> simp [orP, h, h2]
theorem or4 (a b c d : Int) : orP [a, b, c, d] = if a ≠ 0 then a else if b ≠ 0 then b else if c ≠ 0 then c else d := by
  by_cases h : a = 0 <;> by_cases h2 : b = 0 <;> by_cases h3 : c = 0 <;> by_cases h4 : d = 0 <;> simp [orP, h, h2, h3, h4]
theorem cm_cmpA (xs : List (Of × Oa)) (ks : List Nat) : Cm (fun i j : Nat => cmpA ks (atO xs i) (atO xs j)) := by
  have h := cm_or (ks.map (fun k => fun i j : Nat => stp k (atO xs i) (atO xs j))) (fun c hc => by
    obtain ⟨k, -, rfl⟩ := List.mem_map.1 hc
    exact cm_key (fun i : Nat => key k (atO xs i)))
  have e : ∀ x y : Nat, cmpA ks (atO xs x) (atO xs y) = orP ((ks.map (fun k => fun i j : Nat => stp k (atO xs i) (atO xs j))).map (fun c => c x y)) := fun x y => by
    unfold cmpA
    rw [List.map_map]
    rfl
  refine ⟨fun x y => ?_, fun x y z => ?_⟩
  · rw [e, e]; exact h.anti x y
  · rw [e, e, e]; exact h.trans x y z
variable {xs : List (Of × Oa)}
theorem cm_early : Cm (earlyP xs) := cm_cmpA xs [0, 1, 2]
theorem cm_nbr : Cm (nbrP xs) := cm_key (fun i : Nat => nbP (atO xs i))
theorem cm_med : Cm (medP xs) := cm_key (fun i : Nat => (atO xs i).med)
theorem cm_late : Cm (lateP xs) := by
  have h := cm_two (cm_cmpA xs [3, 4, 5, 6, 7]) (cm_key (fun i : Nat => (i : Int)))
  have e : lateP xs = fun x y => if cmpA [3, 4, 5, 6, 7] (atO xs x) (atO xs y) ≠ 0 then cmpA [3, 4, 5, 6, 7] (atO xs x) (atO xs y) else cmp3 (x : Int) (y : Int) := by
    funext x y
    exact or2 _ _
  rw [e]
  exact h
theorem late_strict {i j : Nat} (h : lateP xs i j = 0) : i = j := by
  have e : lateP xs i j = if cmpA [3, 4, 5, 6, 7] (atO xs i) (atO xs j) ≠ 0 then cmpA [3, 4, 5, 6, 7] (atO xs i) (atO xs j) else cmp3 (i : Int) (j : Int) := or2 _ _
  rw [e] at h
  by_cases h0 : cmpA [3, 4, 5, 6, 7] (atO xs i) (atO xs j) = 0
  · rw [if_neg (by omega)] at h
    have := (cmp3_iff (i : Int) (j : Int)).2.1.1 h
    omega
  · rw [if_pos h0] at h; omega
theorem cm_ord1 : Cm (ord1 xs) := by
  have h := cm_two (cm_early (xs := xs)) (cm_two (cm_nbr (xs := xs)) (cm_two (cm_med (xs := xs)) (cm_late (xs := xs))))
  have e : ord1 xs = fun x y => if earlyP xs x y ≠ 0 then earlyP xs x y else if nbrP xs x y ≠ 0 then nbrP xs x y else if medP xs x y ≠ 0 then medP xs x y else lateP xs x y := by
    funext x y
    exact or4 _ _ _ _
  rw [e]
  exact h
theorem cm_ord2 (la : Nat → Nat) : Cm (ord2 xs la) := by
  have h := cm_two (cm_early (xs := xs)) (cm_of la (cm_late (xs := xs)))
  have e : ord2 xs la = fun x y => if earlyP xs x y ≠ 0 then earlyP xs x y else lateP xs (la x) (la y) := by
    funext x y
    exact or2 _ _
  rw [e]
  exact h
/-- what Order leaves -/
def OrdR (xs : List (Of × Oa)) (n : Nat) (ps : List Nat) : Prop := ∃ p1 : List Nat, p1.Perm (rchP (atO xs) n) ∧ p1.Pairwise (fun i j => 0 ≤ ord1 xs j i) ∧ ps.Perm p1 ∧ ps.Pairwise (fun i j => 0 ≤ ord2 xs (laP xs p1 p1.length) j i ∧ (ord2 xs (laP xs p1 p1.length) i j < 0 ∨ p1.idxOf i ≤ p1.idxOf j))
end Go.Proofs.Ytkahjibdmhaglaa.Ch
