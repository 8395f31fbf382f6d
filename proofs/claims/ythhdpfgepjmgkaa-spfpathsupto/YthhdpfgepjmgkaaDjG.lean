/- The heap's order, plain: how it is mended upwards and downwards. -/
import Derived.Test.YthhdpfgepjmgkaaDjF
namespace Go.Proofs.Ythhdpfgepjmgkaa.Dj
open Go.ChangeShapes Go.WideShapes Go.ChangeAt Go.RowKit Go.Joins Go.Deep Go.Proofs.Ythhdpfgepjmgkaa.Ge
set_option linter.unusedVariables false
set_option linter.unusedSimpArgs false

/-- the distance at a place -/
def dd (xs : List Tn) (k : Nat) : Int := ((xs[k]?).map Tn.d).getD 0
theorem dd_at {xs : List Tn} {k : Nat} (h : k < xs.length) : dd xs k = xs[k].d := by unfold dd; rw [List.getElem?_eq_getElem h]; rfl
theorem dd_sw (xs : List Tn) {i j k : Nat} (hi : i < xs.length) (hj : j < xs.length) : dd (sw xs i j) k = if k = j then dd xs i else if k = i then dd xs j else dd xs k := by
  by_cases hk : k < xs.length
  · rw [dd_at (by rw [sw_len]; exact hk), sw_at xs hi hj hk, dd_at hi, dd_at hj, dd_at hk]
    split
    · rfl
    · split <;> rfl
  · have e1 : dd (sw xs i j) k = 0 := by unfold dd; rw [List.getElem?_eq_none (by rw [sw_len]; omega)]; rfl
    have e2 : dd xs k = 0 := by unfold dd; rw [List.getElem?_eq_none (by omega)]; rfl
    rw [e1, e2, if_neg (by omega), if_neg (by omega)]
/-- in order, the first n -/
def Hp (xs : List Tn) (n : Nat) : Prop := ∀ k, 0 < k → k < n → dd xs ((k - 1) / 2) ≤ dd xs k
/-- but for j, which may be too far down -/
structure Up (xs : List Tn) (n j : Nat) : Prop where
  lt : j < n
  a : ∀ k, 0 < k → k < n → k ≠ j → dd xs ((k - 1) / 2) ≤ dd xs k
  b : ∀ k, 0 < k → k < n → (k - 1) / 2 = j → 0 < j → dd xs ((j - 1) / 2) ≤ dd xs k
theorem Up.done {xs : List Tn} {n j : Nat} (h : Up xs n j) (hj : j = 0 ∨ dd xs ((j - 1) / 2) ≤ dd xs j) : Hp xs n := fun k k0 kn => by
  by_cases e : k = j
  · subst e
    rcases hj with hj | hj
    · omega
    · exact hj
  · exact h.a k k0 kn e
theorem Up.step {xs : List Tn} {n j : Nat} (h : Up xs n j) (hn : n ≤ xs.length) (j0 : 0 < j) (hlt : dd xs j < dd xs ((j - 1) / 2)) : Up (sw xs ((j - 1) / 2) j) n ((j - 1) / 2) := by
  have hjn := h.lt
  obtain ⟨i, hi⟩ : ∃ i, (j - 1) / 2 = i := ⟨_, rfl⟩
  rw [hi] at hlt ⊢
  have hij : i < j := by omega
  refine ⟨by omega, fun k k0 kn ke => ?_, fun k k0 kn ke i0 => ?_⟩
  · rw [dd_sw xs (by omega) (by omega), dd_sw xs (by omega) (by omega)]
    by_cases e1 : k = j
    · subst e1
      rw [hi, if_neg (by omega), if_pos rfl, if_pos rfl]
      omega
    · rw [if_neg e1, if_neg ke]
      by_cases e2 : (k - 1) / 2 = j
      · rw [if_pos e2]
        have := h.b k k0 kn e2 j0
        rw [hi] at this
        exact this
      · rw [if_neg e2]
        have := h.a k k0 kn e1
        by_cases e3 : (k - 1) / 2 = i
        · rw [if_pos e3]
          rw [e3] at this
          omega
        · rw [if_neg e3]
          exact this
  · rw [dd_sw xs (by omega) (by omega), dd_sw xs (by omega) (by omega), if_neg (by omega), if_neg (by omega)]
    have h1 : dd xs ((i - 1) / 2) ≤ dd xs i := h.a i i0 (by omega) (by omega)
    by_cases e1 : k = j
    · rw [if_pos e1]
      exact h1
    · rw [if_neg e1, if_neg (by omega)]
      have h2 := h.a k k0 kn e1
      rw [ke] at h2
      omega
/-- but for i, which may be too far up -/
structure Dn (xs : List Tn) (n i : Nat) : Prop where
  a : ∀ k, 0 < k → k < n → (k - 1) / 2 ≠ i → dd xs ((k - 1) / 2) ≤ dd xs k
  b : ∀ k, 0 < k → k < n → (k - 1) / 2 = i → 0 < i → dd xs ((i - 1) / 2) ≤ dd xs k
theorem Dn.done {xs : List Tn} {n i : Nat} (h : Dn xs n i) (hd : ∀ k, 0 < k → k < n → (k - 1) / 2 = i → dd xs i ≤ dd xs k) : Hp xs n := fun k k0 kn => by
  by_cases e : (k - 1) / 2 = i
  · rw [e]
    exact hd k k0 kn e
  · exact h.a k k0 kn e
/-- j is the lesser child of i -/
def Ch (xs : List Tn) (n i j : Nat) : Prop := j < n ∧ 0 < j ∧ (j - 1) / 2 = i ∧ ∀ k, 0 < k → k < n → (k - 1) / 2 = i → dd xs j ≤ dd xs k
theorem Dn.step {xs : List Tn} {n i j : Nat} (h : Dn xs n i) (hn : n ≤ xs.length) (hc : Ch xs n i j) (hlt : dd xs j < dd xs i) : Dn (sw xs i j) n j := by
  obtain ⟨hjn, j0, hji, hmin⟩ := hc
  have hij : i < j := by omega
  refine ⟨fun k k0 kn ke => ?_, fun k k0 kn ke _ => ?_⟩
  · rw [dd_sw xs (by omega) (by omega), dd_sw xs (by omega) (by omega), if_neg ke]
    by_cases e1 : k = j
    · subst e1
      rw [if_pos rfl, hji, if_pos rfl]
      omega
    · rw [if_neg e1]
      by_cases e2 : k = i
      · subst e2
        rw [if_pos rfl, if_neg (by omega)]
        exact h.b j j0 hjn hji k0
      · rw [if_neg e2]
        by_cases e3 : (k - 1) / 2 = i
        · rw [if_pos e3]
          exact hmin k k0 kn e3
        · rw [if_neg e3]
          exact h.a k k0 kn e3
  · rw [dd_sw xs (by omega) (by omega), dd_sw xs (by omega) (by omega), hji, if_neg (by omega), if_pos rfl, if_neg (by omega), if_neg (by omega)]
    have := h.a k k0 kn (by omega)
    rw [ke] at this
    exact this
theorem Hp.least {xs : List Tn} {n : Nat} (h : Hp xs n) : ∀ k, k < n → dd xs 0 ≤ dd xs k := by
  intro k
  induction k using Nat.strongRecOn with
  | ind k ih =>
    intro hk
    by_cases k0 : k = 0
    · rw [k0]; exact Int.le_refl _
    · exact Int.le_trans (ih ((k - 1) / 2) (by omega) (by omega)) (h k (by omega) hk)
theorem dd_app (xs : List Tn) (x : Tn) {k : Nat} (h : k < xs.length) : dd (xs ++ [x]) k = dd xs k := by
  unfold dd
  rw [List.getElem?_append_left h]
/-- one more behind all -/
theorem Hp.push {xs : List Tn} (h : Hp xs xs.length) (x : Tn) : Up (xs ++ [x]) (xs.length + 1) xs.length := ⟨by omega, fun k k0 kn ke => by
  rw [dd_app xs x (by omega), dd_app xs x (by omega)]
  exact h k k0 (by omega), fun k k0 kn ke _ => by omega⟩
/-- the first and the last in each other's place -/
theorem Hp.pop {xs : List Tn} {n : Nat} (h : Hp xs (n + 1)) (hn : xs.length = n + 1) : Dn (sw xs 0 n) n 0 := ⟨fun k k0 kn ke => by
  rw [dd_sw xs (by omega) (by omega), dd_sw xs (by omega) (by omega), if_neg (by omega), if_neg ke, if_neg (by omega), if_neg (by omega)]
  exact h k k0 (by omega), fun k _ _ _ c => absurd c (by omega)⟩
theorem dd_take (xs : List Tn) {n k : Nat} (h : k < n) : dd (xs.take n) k = dd xs k := by
  unfold dd
  rw [List.getElem?_take, if_pos h]
theorem Hp.take {xs : List Tn} {n : Nat} (h : Hp xs n) : Hp (xs.take n) n := fun k k0 kn => by
  rw [dd_take xs (by omega), dd_take xs kn]
  exact h k k0 kn
end Go.Proofs.Ythhdpfgepjmgkaa.Dj
