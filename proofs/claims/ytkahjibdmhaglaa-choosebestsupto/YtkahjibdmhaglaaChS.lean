/- The order of offers, plain: each that Order leaves is the best of itself and those behind it. -/
import Derived.Test.YtkahjibdmhaglaaChR
namespace Go.Proofs.Ytkahjibdmhaglaa.Ch
open Go.ChangeShapes Go.WideShapes Go.ChangeAt Go.RowKit Go.Joins Go.Deep Go.Proofs.Ytkahjibdmhaglaa.Ge
set_option linter.unusedVariables false
set_option linter.unusedSimpArgs false

section
variable {xs : List (Of × Oa)} {p1 : List Nat}
/-- of one class: the same by the early steps, and of one neighbour -/
def KK (xs : List (Of × Oa)) (x y : Nat) : Prop := earlyP xs x y = 0 ∧ nbrP xs x y = 0
instance (x y : Nat) : Decidable (KK xs x y) := by unfold KK; infer_instance
theorem KK.refl (x : Nat) : KK xs x x := ⟨cm_early.refl x, cm_nbr.refl x⟩
theorem KK.symm {x y : Nat} (h : KK xs x y) : KK xs y x := ⟨cm_early.zero h.1, cm_nbr.zero h.2⟩
theorem KK.trans {x y z : Nat} (h : KK xs x y) (h2 : KK xs y z) : KK xs x z := ⟨cm_early.eqt h.1 h2.1, cm_nbr.eqt h.2 h2.2⟩
theorem sort_at (hs : p1.Pairwise (fun i j => 0 ≤ ord1 xs j i)) {i j : Nat} (hij : i ≤ j) (hj : j < p1.length) : ord1 xs p1[i] p1[j] ≤ 0 := by
  rcases Nat.lt_or_eq_of_le hij with h | rfl
  · exact cm_ord1.le.2 ((List.pairwise_iff_getElem.1 hs) i j (by omega) hj h)
  · rw [cm_ord1.refl]; exact Int.le_refl _
def c12 (xs : List (Of × Oa)) (x y : Nat) : Int := if earlyP xs x y ≠ 0 then earlyP xs x y else nbrP xs x y
theorem cm_c12 : Cm (c12 xs) := cm_two cm_early cm_nbr
theorem c12_zero {x y : Nat} : c12 xs x y = 0 ↔ KK xs x y := by
  unfold c12 KK
  by_cases h : earlyP xs x y = 0
  · rw [if_neg (by omega)]; simp [h]
  · rw [if_pos h]; simp [h]
theorem c12_ord {x y : Nat} (h : ord1 xs x y ≤ 0) : c12 xs x y ≤ 0 := by
  rw [ord1_four] at h
  unfold c12
  by_cases h1 : earlyP xs x y = 0
  · rw [if_neg (by omega)] at h ⊢
    by_cases h2 : nbrP xs x y = 0
    · omega
    · rw [if_pos h2] at h; exact h
  · rw [if_pos h1] at h ⊢; exact h
theorem between (hs : p1.Pairwise (fun i j => 0 ≤ ord1 xs j i)) {i j k : Nat} (hij : i ≤ j) (hjk : j ≤ k) (hk : k < p1.length) (h : KK xs p1[i] p1[k]) : KK xs p1[j] p1[k] := by
  have a1 := c12_ord (sort_at hs hij (by omega))
  have a2 := c12_ord (sort_at hs hjk hk)
  have a3 := c12_zero.2 h.symm
  have a4 := cm_c12.trans p1[k] p1[i] p1[j] (by omega) a1
  have a5 := cm_c12.le.1 a4
  exact c12_zero.1 (by omega)
theorem laP_other {k j : Nat} (h : j ≠ p1.getD k 0) : laP xs p1 (k + 1) j = laP xs p1 k j := by
  show (if j = p1.getD k 0 then _ else _) = _
  rw [if_neg h]
theorem getD_at {k : Nat} (h : k < p1.length) : p1.getD k 0 = p1[k] := by rw [List.getD_eq_getElem?_getD, List.getElem?_eq_getElem h]; rfl
theorem laP_final (hnd : p1.Nodup) {i : Nat} (hi : i < p1.length) : ∀ k, i + 1 + k ≤ p1.length → laP xs p1 (i + 1 + k) p1[i] = laP xs p1 (i + 1) p1[i]
  | 0, _ => rfl
  | k + 1, hk => by
    have e : laP xs p1 (i + 1 + (k + 1)) p1[i] = laP xs p1 (i + 1 + k) p1[i] := laP_other (k := i + 1 + k) (by
      rw [getD_at (by omega)]
      intro e
      have := (List.getElem_inj hnd).1 e
      omega)
    rw [e]
    exact laP_final hnd hi k (by omega)
theorem la_zero (hnd : p1.Nodup) (h0 : 0 < p1.length) : laP xs p1 p1.length p1[0] = p1[0] := by
  have h1 := laP_final (xs := xs) hnd h0 (p1.length - 1) (by omega)
  have e1 : 0 + 1 + (p1.length - 1) = p1.length := by omega
  rw [e1] at h1
  rw [h1]
  show (if p1[0] = p1.getD 0 0 then _ else _) = _
  rw [getD_at h0, if_pos rfl, if_neg (fun h => Nat.lt_irrefl 0 h.1)]
theorem la_next (hnd : p1.Nodup) {i : Nat} (hi : i + 1 < p1.length) : laP xs p1 p1.length p1[i + 1] = if KK xs p1[i] p1[i + 1] ∧ 0 < lateP xs (laP xs p1 p1.length p1[i]) p1[i + 1] then laP xs p1 p1.length p1[i] else p1[i + 1] := by
  have h1 := laP_final (xs := xs) hnd hi (p1.length - (i + 2)) (by omega)
  have e1 : i + 1 + 1 + (p1.length - (i + 2)) = p1.length := by omega
  have h2 := laP_final (xs := xs) hnd (show i < p1.length by omega) (p1.length - (i + 1)) (by omega)
  have e2 : i + 1 + (p1.length - (i + 1)) = p1.length := by omega
  rw [e1] at h1
  rw [e2] at h2
  rw [h1, h2]
  show (if p1[i + 1] = p1.getD (i + 1) 0 then _ else _) = _
  rw [getD_at hi, if_pos rfl, Nat.add_sub_cancel, getD_at (by omega)]
  unfold laC KK
  by_cases hc : (earlyP xs p1[i] p1[i + 1] = 0 ∧ nbrP xs p1[i] p1[i + 1] = 0) ∧ 0 < lateP xs (laP xs p1 (i + 1) p1[i]) p1[i + 1]
  · rw [if_pos ⟨by omega, hc.1.1, hc.1.2, hc.2⟩, if_pos hc]
  · rw [if_neg (fun h => hc ⟨⟨h.2.1, h.2.2.1⟩, h.2.2.2⟩), if_neg hc]
theorem la_spec (hnd : p1.Nodup) (hs : p1.Pairwise (fun i j => 0 ≤ ord1 xs j i)) : ∀ i (hi : i < p1.length), (∃ j, ∃ hj : j ≤ i, laP xs p1 p1.length p1[i] = p1[j] ∧ KK xs p1[j] p1[i]) ∧ (∀ j (hj : j ≤ i), KK xs p1[j] p1[i] → lateP xs p1[j] (laP xs p1 p1.length p1[i]) ≤ 0)
  | 0, hi => by
    rw [la_zero hnd hi]
    refine ⟨⟨0, Nat.le_refl _, rfl, KK.refl _⟩, fun j hj _ => ?_⟩
    obtain rfl : j = 0 := by omega
    rw [cm_late.refl]; exact Int.le_refl _
  | i + 1, hi => by
    obtain ⟨⟨j0, hj0, hA, hK⟩, hB⟩ := la_spec hnd hs i (by omega)
    rw [la_next hnd hi]
    by_cases hc : KK xs p1[i] p1[i + 1] ∧ 0 < lateP xs (laP xs p1 p1.length p1[i]) p1[i + 1]
    · rw [if_pos hc]
      refine ⟨⟨j0, by omega, hA, hK.trans hc.1⟩, fun j hj hk => ?_⟩
      rcases Nat.lt_or_eq_of_le hj with h | rfl
      · exact hB j (by omega) (hk.trans hc.1.symm)
      · exact cm_late.le.2 (by omega)
    · rw [if_neg hc]
      refine ⟨⟨i + 1, Nat.le_refl _, rfl, KK.refl _⟩, fun j hj hk => ?_⟩
      rcases Nat.lt_or_eq_of_le hj with h | rfl
      · have k1 := between hs (show j ≤ i by omega) (Nat.le_succ i) hi hk
        have l1 : ¬ 0 < lateP xs (laP xs p1 p1.length p1[i]) p1[i + 1] := fun h => hc ⟨k1, h⟩
        have l2 := hB j (by omega) (hk.trans k1.symm)
        exact cm_late.trans _ _ _ l2 (by omega)
      · rw [cm_late.refl]; exact Int.le_refl _
theorem idx_at {x : Nat} (hx : x ∈ p1) : p1[p1.idxOf x]'(List.idxOf_lt_length_of_mem hx) = x := List.getElem_idxOf _
theorem la_A (hnd : p1.Nodup) (hs : p1.Pairwise (fun i j => 0 ≤ ord1 xs j i)) {y : Nat} (hy : y ∈ p1) : laP xs p1 p1.length y ∈ p1 ∧ p1.idxOf (laP xs p1 p1.length y) ≤ p1.idxOf y ∧ KK xs (laP xs p1 p1.length y) y := by
  have hl := List.idxOf_lt_length_of_mem hy
  obtain ⟨⟨j, hj, e, hk⟩, -⟩ := la_spec hnd hs (p1.idxOf y) hl
  rw [idx_at hy] at e hk
  rw [e]
  exact ⟨List.getElem_mem _, by rw [hnd.idxOf_getElem j (by omega)]; exact hj, hk⟩
theorem la_B (hnd : p1.Nodup) (hs : p1.Pairwise (fun i j => 0 ≤ ord1 xs j i)) {x y : Nat} (hx : x ∈ p1) (hy : y ∈ p1) (hxy : p1.idxOf x ≤ p1.idxOf y) (hk : KK xs x y) : lateP xs x (laP xs p1 p1.length y) ≤ 0 := by
  have hl := List.idxOf_lt_length_of_mem hy
  obtain ⟨-, hB⟩ := la_spec hnd hs (p1.idxOf y) hl
  have h1 := hB (p1.idxOf x) hxy
  rw [idx_at hy, idx_at hx] at h1
  exact h1 hk
theorem ord_at (hs : p1.Pairwise (fun i j => 0 ≤ ord1 xs j i)) {x y : Nat} (hx : x ∈ p1) (hy : y ∈ p1) (hxy : p1.idxOf x ≤ p1.idxOf y) : ord1 xs x y ≤ 0 := by
  have h1 := sort_at hs hxy (List.idxOf_lt_length_of_mem hy)
  rw [idx_at hy, idx_at hx] at h1
  exact h1
theorem la_idem (hnd : p1.Nodup) (hs : p1.Pairwise (fun i j => 0 ≤ ord1 xs j i)) {y : Nat} (hy : y ∈ p1) : laP xs p1 p1.length (laP xs p1 p1.length y) = laP xs p1 p1.length y := by
  obtain ⟨z1, z2, z3⟩ := la_A (xs := xs) hnd hs hy
  obtain ⟨u1, u2, u3⟩ := la_A (xs := xs) hnd hs z1
  have h1 := la_B (xs := xs) hnd hs z1 z1 (Nat.le_refl _) (KK.refl _)
  have h2 := la_B (xs := xs) hnd hs u1 hy (by omega) (u3.trans z3)
  have h3 := cm_late.le.1 h1
  exact late_strict (xs := xs) (by omega)
end
theorem ord_cond {xs : List (Of × Oa)} {n : Nat} {pre suf : List Nat} {b : Nat} (hnr : (rchP (atO xs) n).Nodup) (h : OrdR xs n (pre ++ b :: suf)) : Cond xs (· ∈ b :: suf) b := by
  obtain ⟨p1, hp1, hs, hp2, hs2⟩ := h
  have hnd : p1.Nodup := hp1.nodup_iff.2 hnr
  have hnd2 : (pre ++ b :: suf).Nodup := hp2.nodup_iff.2 hnd
  obtain ⟨f, hf⟩ : ∃ f, laP xs p1 p1.length = f := ⟨_, rfl⟩
  have hA : ∀ y, y ∈ p1 → f y ∈ p1 ∧ p1.idxOf (f y) ≤ p1.idxOf y ∧ KK xs (f y) y := fun y hy => by rw [← hf]; exact la_A hnd hs hy
  have hB : ∀ x y, x ∈ p1 → y ∈ p1 → p1.idxOf x ≤ p1.idxOf y → KK xs x y → lateP xs x (f y) ≤ 0 := fun x y hx hy h1 h2 => by rw [← hf]; exact la_B hnd hs hx hy h1 h2
  have hI : ∀ y, y ∈ p1 → f (f y) = f y := fun y hy => by rw [← hf]; exact la_idem hnd hs hy
  rw [hf] at hs2
  clear hf
  have hin : ∀ x, x ∈ pre ++ b :: suf ↔ x ∈ p1 := fun x => hp2.mem_iff
  have hbp : b ∈ p1 := (hin b).1 (by simp)
  have hsp : ∀ j ∈ suf, j ∈ p1 := fun j hj => (hin j).1 (by simp [hj])
  have hpp : ∀ j ∈ pre, j ∈ p1 := fun j hj => (hin j).1 (by simp [hj])
  obtain ⟨-, hq1, hq2⟩ := List.pairwise_append.1 hs2
  have hS : ∀ j ∈ suf, 0 ≤ ord2 xs f j b ∧ (ord2 xs f b j < 0 ∨ p1.idxOf b ≤ p1.idxOf j) := fun j hj => (List.pairwise_cons.1 hq1).1 j hj
  have hP : ∀ z ∈ pre, 0 ≤ ord2 xs f b z := fun z hz => (hq2 z hz b (by simp)).1
  have hbs : b ∉ suf := by
    have h1 := (List.nodup_append.1 hnd2).2.1
    exact (List.nodup_cons.1 h1).1
  have hE := cm_early (xs := xs)
  have hL := cm_late (xs := xs)
  have hM := cm_med (xs := xs)
  have hinj : ∀ x y, x ∈ p1 → y ∈ p1 → p1.idxOf x = p1.idxOf y → x = y := fun x y hx hy e => by
    have h1 := idx_at hx
    have h2 := idx_at hy
    simp only [e] at h1
    exact h1.symm.trans h2
  -- of one class, the order is that of the first sort
  have hW : ∀ j ∈ suf, KK xs j b → p1.idxOf b < p1.idxOf j := fun j hj hk => by
    rcases Nat.lt_or_ge (p1.idxOf b) (p1.idxOf j) with h1 | h1
    · exact h1
    · exfalso
      obtain ⟨z1, z2, z3⟩ := hA j (hsp j hj)
      have a1 := hB (f j) b z1 hbp (by omega) (z3.trans hk)
      obtain ⟨a2, a3⟩ := hS j hj
      rw [ord2_two, if_neg (by have := hk.1; omega)] at a2
      have a4 : f j = f b := late_strict (xs := xs) (by omega)
      rw [ord2_two, if_neg (by have := hk.symm.1; omega), a4, hL.refl] at a3
      have a5 : p1.idxOf b = p1.idxOf j := by omega
      have a6 := hinj b j hbp (hsp j hj) a5
      exact hbs (a6 ▸ hj)
  have hE0 : ∀ j ∈ suf, 0 ≤ earlyP xs j b := fun j hj => by
    have a1 := (hS j hj).1
    rw [ord2_two] at a1
    by_cases h0 : earlyP xs j b = 0
    · omega
    · rw [if_pos h0] at a1; exact a1
  have hO1 : ∀ x y, x ∈ p1 → y ∈ p1 → p1.idxOf x ≤ p1.idxOf y → KK xs x y → medP xs x y ≤ 0 ∧ (medP xs x y = 0 → lateP xs x y ≤ 0) := fun x y hx hy h1 hk => by
    have a1 := ord_at hs hx hy h1
    rw [ord1_four, if_neg (by have := hk.1; omega), if_neg (by have := hk.2; omega)] at a1
    by_cases h0 : medP xs x y = 0
    · rw [if_neg (by omega)] at a1; exact ⟨by omega, fun _ => a1⟩
    · rw [if_pos h0] at a1; exact ⟨a1, fun e => absurd e h0⟩
  refine ⟨List.mem_cons_self, ?_, ?_, ?_⟩
  · intro j hj
    rcases List.mem_cons.1 hj with rfl | hj
    · rw [hE.refl]; exact Int.le_refl _
    · exact hE0 j hj
  · intro j hj he hn
    rcases List.mem_cons.1 hj with rfl | hj
    · rw [hM.refl]; exact Int.le_refl _
    · have hk : KK xs j b := ⟨he, hn⟩
      have a1 := (hO1 b j hbp (hsp j hj) (by have := hW j hj hk; omega) hk.symm).1
      exact hM.le.1 a1
  · suffices H : ∀ d j, p1.idxOf j ≤ d → j ∈ suf → earlyP xs j b = 0 → (∀ k, k ∈ b :: suf → earlyP xs k j = 0 → nbrP xs k j = 0 → 0 ≤ medP xs k j) → 0 ≤ lateP xs j b by
      intro j hj he hmin
      rcases List.mem_cons.1 hj with rfl | hj
      · rw [hL.refl]; exact Int.le_refl _
      · exact H _ j (Nat.le_refl _) hj he hmin
    intro d
    induction d with
    | zero =>
      intro j hd hj he hmin
      exact late_step hA hB hI hsp hpp hin hS hP hbs hW hO1 hbp hinj hj he hmin (fun h hh hk hlt => by omega)
    | succ d ih =>
      intro j hd hj he hmin
      refine late_step hA hB hI hsp hpp hin hS hP hbs hW hO1 hbp hinj hj he hmin (fun h hh hk hlt => ?_)
      have m1 := (hO1 h j (hsp h hh) (hsp j hj) (by omega) hk)
      have m2 := hmin h (List.mem_cons_of_mem _ hh) hk.1 hk.2
      have m0 : medP xs h j = 0 := by omega
      refine ⟨m1.2 m0, ih h (by omega) hh (hE.eqt hk.1 he) (fun k hk1 hk2 hk3 => ?_)⟩
      have k0 : KK xs k j := KK.trans ⟨hk2, hk3⟩ hk
      have m3 := hmin k hk1 k0.1 k0.2
      have m4 := hM.trans h j k (by omega) (hM.le.2 m3)
      exact hM.le.1 m4
where
  late_step {xs : List (Of × Oa)} {p1 pre suf : List Nat} {b : Nat} {f : Nat → Nat} (hA : ∀ y, y ∈ p1 → f y ∈ p1 ∧ p1.idxOf (f y) ≤ p1.idxOf y ∧ KK xs (f y) y) (hB : ∀ x y, x ∈ p1 → y ∈ p1 → p1.idxOf x ≤ p1.idxOf y → KK xs x y → lateP xs x (f y) ≤ 0) (hI : ∀ y, y ∈ p1 → f (f y) = f y) (hsp : ∀ j ∈ suf, j ∈ p1) (hpp : ∀ j ∈ pre, j ∈ p1) (hin : ∀ x, x ∈ pre ++ b :: suf ↔ x ∈ p1) (hS : ∀ j ∈ suf, 0 ≤ ord2 xs f j b ∧ (ord2 xs f b j < 0 ∨ p1.idxOf b ≤ p1.idxOf j)) (hP : ∀ z ∈ pre, 0 ≤ ord2 xs f b z) (hbs : b ∉ suf) (hW : ∀ j ∈ suf, KK xs j b → p1.idxOf b < p1.idxOf j) (hO1 : ∀ x y, x ∈ p1 → y ∈ p1 → p1.idxOf x ≤ p1.idxOf y → KK xs x y → medP xs x y ≤ 0 ∧ (medP xs x y = 0 → lateP xs x y ≤ 0)) (hbp : b ∈ p1) (hinj : ∀ x y, x ∈ p1 → y ∈ p1 → p1.idxOf x = p1.idxOf y → x = y) {j : Nat} (hj : j ∈ suf) (he : earlyP xs j b = 0) (hmin : ∀ k, k ∈ b :: suf → earlyP xs k j = 0 → nbrP xs k j = 0 → 0 ≤ medP xs k j) (hh : ∀ h, h ∈ suf → KK xs h j → p1.idxOf h < p1.idxOf j → lateP xs h j ≤ 0 ∧ 0 ≤ lateP xs h b) : 0 ≤ lateP xs j b := by
    have hE := cm_early (xs := xs)
    have hL := cm_late (xs := xs)
    have hM := cm_med (xs := xs)
    by_cases hk : KK xs j b
    · have a0 := hO1 b j hbp (hsp j hj) (by have := hW j hj hk; omega) hk.symm
      have a1 := hmin b List.mem_cons_self hk.symm.1 hk.symm.2
      exact hL.le.1 (a0.2 (by omega))
    · by_cases hex : ∃ h, h ∈ suf ∧ KK xs h j ∧ p1.idxOf h < p1.idxOf j
      · obtain ⟨h, h1, h2, h3⟩ := hex
        obtain ⟨b1, b2⟩ := hh h h1 h2 h3
        exact hL.le.1 (hL.trans b h j (hL.le.2 b2) b1)
      · rcases Int.lt_or_le (lateP xs j b) 0 with hlt | hge
        · exfalso
          obtain ⟨z1, z2, z3⟩ := hA j (hsp j hj)
          have a1 := (hS j hj).1
          rw [ord2_two, if_neg (by omega)] at a1
          have a2 := hL.le.2 a1
          have a3 := hB b b hbp hbp (Nat.le_refl _) (KK.refl _)
          have a4 := hL.trans b (f b) (f j) a3 a2
          have a5 := hL.lt_le hlt a4
          have hne : f j ≠ j := fun e => by rw [e, hL.refl] at a5; omega
          have hlt2 : p1.idxOf (f j) < p1.idxOf j := by
            rcases Nat.lt_or_eq_of_le z2 with h | h
            · exact h
            · exact absurd (hinj _ _ z1 (hsp j hj) h) hne
          rcases List.mem_append.1 ((hin (f j)).2 z1) with hz | hz
          · have c1 := hP (f j) hz
            have c2 : earlyP xs b (f j) = 0 := hE.zero (hE.eqt z3.1 he)
            rw [ord2_two, if_neg (by omega), hI j (hsp j hj)] at c1
            have c3 : f b = f j := late_strict (xs := xs) (by omega)
            obtain ⟨u1, u2, u3⟩ := hA b hbp
            rw [c3] at u3
            exact hk (z3.symm.trans u3)
          · rcases List.mem_cons.1 hz with hz | hz
            · rw [hz] at z3
              exact hk z3.symm
            · exact hex ⟨f j, hz, z3, hlt2⟩
        · exact hge
end Go.Proofs.Ytkahjibdmhaglaa.Ch
