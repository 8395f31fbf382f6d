/- The book's Get, Drop and Match against the tree; plain. -/
import Derived.Test.YtibmhdfodmkahaaTrW
namespace Go.Proofs.Ytibmhdfodmkahaa.TrM
open Go.Proofs.Ytibmhdfodmkahaa.PM
set_option linter.unusedVariables false

/-- the book's Get -/
def bget (a n : Int) : List (Int × Int × Int) → Option Int
  | [] => none
  | x :: xs => if x.1 = a ∧ x.2.1 = n then some x.2.2 else bget a n xs
theorem bget_at {a n : Int} {x : Int × Int × Int} {xs : List (Int × Int × Int)} (e : x.1 = a ∧ x.2.1 = n) : bget a n (x :: xs) = some x.2.2 := by
  conv => lhs; unfold bget
  rw [if_pos e]
theorem bget_ne {a n : Int} {x : Int × Int × Int} {xs : List (Int × Int × Int)} (e : ¬ (x.1 = a ∧ x.2.1 = n)) : bget a n (x :: xs) = bget a n xs := by
  conv => lhs; unfold bget
  rw [if_neg e]
theorem bget_mem {a n v : Int} {l : List (Int × Int × Int)} (h : bget a n l = some v) : (a, n, v) ∈ l := by
  induction l with
  | nil => cases h
  | cons x xs ih =>
    by_cases e : x.1 = a ∧ x.2.1 = n
    · rw [bget_at e] at h
      obtain ⟨rfl, rfl⟩ := e
      simp at h; subst h; simp
    · rw [bget_ne e] at h
      exact List.mem_cons_of_mem _ (ih h)
theorem bget_some {a n v : Int} {l : List (Int × Int × Int)} (h : (a, n, v) ∈ l) : bget a n l ≠ none := by
  induction l with
  | nil => cases h
  | cons x xs ih =>
    by_cases e : x.1 = a ∧ x.2.1 = n
    · rw [bget_at e]; simp
    · rw [bget_ne e]
      rcases List.mem_cons.1 h with h1 | h1
      · subst h1; exact absurd ⟨rfl, rfl⟩ e
      · exact ih h1
theorem bget_allT {t : Tr} (hw : WF t) (a n : Int) : bget a n (allT t) = look t a n := by
  cases h : bget a n (allT t) with
  | some v => exact ((mem_allT hw a n v).1 (bget_mem h)).symm
  | none =>
    cases h2 : look t a n with
    | none => rfl
    | some v => exact absurd h (bget_some ((mem_allT hw a n v).2 h2))

/-- the book's Drop -/
theorem all_del {t : Tr} (hw : WF t) (a n : Int) : allT (del t a n).1 = bp a n 0 true (allT t) := by
  obtain ⟨h1, -, h3, h4, -⟩ := del_ok t a n hw
  refine rising_eq (rising_allT h1) ?_ fun x => ?_
  · rw [bp_true]; exact (rising_allT hw).filter _
  · obtain ⟨c, k, v⟩ := x
    rw [mem_allT h1, bp_mem]
    by_cases e : c = a ∧ k = n
    · obtain ⟨rfl, rfl⟩ := e
      rw [h4]; simp
    · rw [h3 c k e, mem_allT hw]; simp [e]

/-- the book's Match -/
def bm1 (x : Int) (acc : Option (Int × Int × Int)) (y : Int × Int × Int) : Option (Int × Int × Int) := if has y.1 y.2.1 x = true ∧ (acc = none ∨ mN acc < y.2.1) then some y else acc
def bm (x : Int) (acc : Option (Int × Int × Int)) (l : List (Int × Int × Int)) : Option (Int × Int × Int) := l.foldl (bm1 x) acc
theorem bm_nil (x : Int) (acc : Option (Int × Int × Int)) : bm x acc [] = acc := rfl
theorem bm_cons (x : Int) (acc : Option (Int × Int × Int)) (y : Int × Int × Int) (l : List (Int × Int × Int)) : bm x acc (y :: l) = bm x (bm1 x acc y) l := rfl
theorem bm_ok (x : Int) (l : List (Int × Int × Int)) : ∀ acc, (bm x acc l = acc ∨ ∃ y ∈ l, bm x acc l = some y ∧ has y.1 y.2.1 x = true) ∧ (∀ y ∈ l, has y.1 y.2.1 x = true → ∃ z, bm x acc l = some z ∧ y.2.1 ≤ z.2.1) ∧ (∀ z0, acc = some z0 → ∃ z, bm x acc l = some z ∧ z0.2.1 ≤ z.2.1) := by
  induction l with
  | nil => intro acc; exact ⟨.inl rfl, (fun y hy => by cases hy), (fun z0 h => ⟨z0, h, Int.le_refl _⟩)⟩
  | cons y l ih =>
    intro acc
    rw [bm_cons]
    obtain ⟨i1, i2, i3⟩ := ih (bm1 x acc y)
    by_cases hc : has y.1 y.2.1 x = true ∧ (acc = none ∨ mN acc < y.2.1)
    · have e : bm1 x acc y = some y := by unfold bm1; rw [if_pos hc]
      rw [e] at i1 i2 i3 ⊢
      obtain ⟨z, hz, hle⟩ := i3 y rfl
      refine ⟨.inr ?_, fun y' hy' hh => ?_, fun z0 h0 => ⟨z, hz, ?_⟩⟩
      · rcases i1 with h | ⟨y', hy', h1, h2⟩
        · exact ⟨y, by simp, h, hc.1⟩
        · exact ⟨y', by simp [hy'], h1, h2⟩
      · rcases List.mem_cons.1 hy' with rfl | h
        · exact ⟨z, hz, hle⟩
        · exact i2 y' h hh
      · rcases hc.2 with h | h
        · rw [h] at h0; cases h0
        · rw [h0] at h; simp [mN] at h; omega
    · have e : bm1 x acc y = acc := by unfold bm1; rw [if_neg hc]
      rw [e] at i1 i2 i3 ⊢
      refine ⟨?_, fun y' hy' hh => ?_, i3⟩
      · rcases i1 with h | ⟨y', hy', h1, h2⟩
        · exact .inl h
        · exact .inr ⟨y', by simp [hy'], h1, h2⟩
      · rcases List.mem_cons.1 hy' with rfl | h
        · cases acc with
          | none => exact absurd ⟨hh, .inl rfl⟩ hc
          | some z0 =>
            obtain ⟨z, hz, hle⟩ := i3 z0 rfl
            have : ¬ z0.2.1 < y'.2.1 := fun h => hc ⟨hh, .inr h⟩
            exact ⟨z, hz, by omega⟩
        · exact i2 y' h hh
theorem bm_allT {t : Tr} (hw : WF t) (x : Int) : bm x none (allT t) = mt t x none := by
  obtain ⟨i1, i2, -⟩ := bm_ok x (allT t) none
  rcases mt_ok t x hw none with ⟨b, m, u, e, hc, hl, hmax⟩ | ⟨e, hno⟩
  · obtain ⟨z, hz, hle⟩ := i2 (b, m, u) ((mem_allT hw b m u).2 hl) (by rw [has_cov]; exact hc)
    rcases i1 with h | ⟨⟨c, k, v⟩, hy, h1, h2⟩
    · rw [h] at hz; cases hz
    · rw [h1] at hz; cases hz
      have hlk := (mem_allT hw c k v).1 hy
      rw [has_cov] at h2
      have hk := hmax c k v hlk h2
      have hle' : m ≤ k := hle
      have hcl := cov_line hc h2 hle'
      obtain ⟨e1, e2⟩ := cov_eq hcl (by omega)
      subst e1 e2
      rw [hl] at hlk; cases hlk
      rw [h1, e]
  · rcases i1 with h | ⟨⟨c, k, v⟩, hy, h1, h2⟩
    · rw [h, e]
    · exact absurd h2 (by rw [has_cov]; exact fun h => hno c k v ((mem_allT hw c k v).1 hy) h)
end Go.Proofs.Ytibmhdfodmkahaa.TrM
