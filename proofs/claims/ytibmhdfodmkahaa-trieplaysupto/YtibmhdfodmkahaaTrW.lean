/- A trie's items in order, and the book that lists them: plain trees and lists. -/
import Derived.Test.YtibmhdfodmkahaaTrR
namespace Go.Proofs.Ytibmhdfodmkahaa.TrM
open Go.Proofs.Ytibmhdfodmkahaa.PM

def lt3 (x y : Int × Int × Int) : Prop := x.1 < y.1 ∨ (x.1 = y.1 ∧ x.2.1 < y.2.1)
def allT : Tr → List (Int × Int × Int)
  | .nil => []
  | .node b m u h l r => (if h = true then [(b, m, u)] else []) ++ (allT l ++ allT r)

theorem lt3_irrefl (x : Int × Int × Int) : ¬ lt3 x x := by unfold lt3; omega
theorem lt3_trans {x y z : Int × Int × Int} (h : lt3 x y) (k : lt3 y z) : lt3 x z := by unfold lt3 at *; omega
theorem lt3_same {x y : Int × Int × Int} (h : x.1 = y.1) (k : x.2.1 = y.2.1) : ¬ lt3 x y := by unfold lt3; omega

/-- two rising lists that have the same are the same -/
theorem rising_eq : ∀ {l r : List (Int × Int × Int)}, l.Pairwise lt3 → r.Pairwise lt3 → (∀ x, x ∈ l ↔ x ∈ r) → l = r
  | [], [], _, _, _ => rfl
  | [], y :: r, _, _, h => absurd ((h y).2 (by simp)) (by simp)
  | x :: l, [], _, _, h => absurd ((h x).1 (by simp)) (by simp)
  | x :: l, y :: r, hl, hr, h => by
    rw [List.pairwise_cons] at hl hr
    have e : x = y := by
      have hx := (h x).1 (by simp)
      have hy := (h y).2 (by simp)
      rcases List.mem_cons.1 hx with e | hx
      · exact e
      · rcases List.mem_cons.1 hy with e | hy
        · exact e.symm
        · exact absurd (lt3_trans (hl.1 y hy) (hr.1 x hx)) (lt3_irrefl x)
    subst e
    refine congrArg (x :: ·) (rising_eq hl.2 hr.2 (fun z => ?_))
    constructor
    · intro hz
      rcases List.mem_cons.1 ((h z).1 (by simp [hz])) with e | h2
      · subst e; exact absurd (hl.1 z hz) (lt3_irrefl z)
      · exact h2
    · intro hz
      rcases List.mem_cons.1 ((h z).2 (by simp [hz])) with e | h2
      · subst e; exact absurd (hr.1 z hz) (lt3_irrefl z)
      · exact h2

/-- whatever stands in a trie is what is looked up -/
theorem mem_allT {t : Tr} (hw : WF t) (c k v : Int) : (c, k, v) ∈ allT t ↔ look t c k = some v := by
  induction t with
  | nil => simp [allT, look]
  | node b m u h l r il ir =>
    have hw' := hw
    obtain ⟨hv, hb, r0, r1, w0, w1⟩ := hw
    have hm : ∀ v, (c, k, v) ∈ allT (.node b m u h l r) ↔ ((h = true ∧ c = b ∧ k = m ∧ v = u) ∨ (c, k, v) ∈ allT l ∨ (c, k, v) ∈ allT r) := by
      intro v; cases h <;> simp [allT]
    rw [hm, il w0, ir w1]
    by_cases e : b = c ∧ m = k
    · obtain ⟨rfl, rfl⟩ := e
      rw [look_at ⟨rfl, rfl⟩, kid_no r0, kid_no r1]
      cases h <;> simp [eq_comm]
    · have ne : ¬ (h = true ∧ c = b ∧ k = m ∧ v = u) := fun h => e ⟨h.2.1.symm, h.2.2.1.symm⟩
      constructor
      · rintro (h1 | h1 | h1)
        · exact absurd h1 ne
        · have := kid_in (.inl rfl) hv r0 h1
          rw [look_l e this.1 this.2.2]; exact h1
        · have := kid_in (.inr rfl) hv r1 h1
          rw [look_r e this.1 (by rw [this.2.2]; decide)]; exact h1
      · intro h1
        by_cases hc : cov b m c k = true
        · by_cases hs : sdI c m = 0
          · rw [look_l e hc hs] at h1; exact .inr (.inl h1)
          · rw [look_r e hc hs] at h1; exact .inr (.inr h1)
        · rw [look_none e hc] at h1; cases h1

theorem kid0 (b m : Int) : kid b m 0 = b := by unfold kid; omega
theorem kid1 (b m : Int) : kid b m 1 = b + psz (m + 1) := by unfold kid; omega

theorem rising_allT {t : Tr} (hw : WF t) : (allT t).Pairwise lt3 := by
  induction t with
  | nil => exact List.Pairwise.nil
  | node b m u h l r il ir =>
    obtain ⟨hv, hb, r0, r1, w0, w1⟩ := hw
    have hl : ∀ y ∈ allT l, cov (kid b m 0) (m + 1) y.1 y.2.1 = true := fun y hy => look_out r0 ((mem_allT w0 y.1 y.2.1 y.2.2).1 hy)
    have hr : ∀ y ∈ allT r, cov (kid b m 1) (m + 1) y.1 y.2.1 = true := fun y hy => look_out r1 ((mem_allT w1 y.1 y.2.1 y.2.2).1 hy)
    have hlr : (allT l ++ allT r).Pairwise lt3 := by
      refine List.pairwise_append.2 ⟨il w0, ir w1, fun x hx y hy => ?_⟩
      have h0 := (cov_iff _ _ _ _).1 (hl x hx)
      have h1 := (cov_iff _ _ _ _).1 (hr y hy)
      rw [kid0] at h0
      rw [kid1] at h1
      left; omega
    cases h with
    | false => exact hlr
    | true =>
      show ((b, m, u) :: (allT l ++ allT r)).Pairwise lt3
      refine List.pairwise_cons.2 ⟨fun y hy => ?_, hlr⟩
      rcases List.mem_append.1 hy with hy | hy
      · have h0 := (cov_iff _ _ _ _).1 (hl y hy)
        rw [kid0] at h0
        unfold lt3; simp only; omega
      · have h0 := (cov_iff _ _ _ _).1 (hr y hy)
        have hp := psz_pos (m + 1)
        rw [kid1] at h0
        unfold lt3; simp only; omega

/-- the book behind a put -/
def bp (a n v : Int) : Bool → List (Int × Int × Int) → List (Int × Int × Int)
  | done, [] => if done = true then [] else [(a, n, v)]
  | done, x :: xs =>
    (if done = false ∧ ord a n x.1 x.2.1 ≤ 0 then [(a, n, v)] else []) ++ ((if x.1 = a ∧ x.2.1 = n then [] else [x]) ++ bp a n v (done || decide (ord a n x.1 x.2.1 ≤ 0)) xs)

theorem ord_le {a n b m : Int} : ord a n b m ≤ 0 ↔ (a < b ∨ (a = b ∧ n ≤ m)) := by
  unfold ord
  split
  · omega
  · split <;> omega

theorem bp_true (a n v : Int) (l : List (Int × Int × Int)) : bp a n v true l = l.filter (fun x => ! decide (x.1 = a ∧ x.2.1 = n)) := by
  induction l with
  | nil => rfl
  | cons x xs ih =>
    unfold bp
    rw [if_neg (by simp), Bool.true_or, ih, List.filter_cons]
    by_cases e : x.1 = a ∧ x.2.1 = n
    · rw [if_pos e, decide_eq_true e]; rfl
    · rw [if_neg e, decide_eq_false e]; rfl
theorem bp_mem {a n v : Int} {l : List (Int × Int × Int)} (y : Int × Int × Int) : ∀ {done : Bool}, y ∈ bp a n v done l ↔ ((done = false ∧ y = (a, n, v)) ∨ (¬ (y.1 = a ∧ y.2.1 = n) ∧ y ∈ l)) := by
  induction l with
  | nil => intro done; cases done <;> simp [bp]
  | cons x xs ih =>
    intro done
    unfold bp
    rw [List.mem_append, List.mem_append, ih]
    cases done with
    | true =>
      rw [if_neg (by simp)]
      by_cases e : x.1 = a ∧ x.2.1 = n
      · rw [if_pos e]
        simp only [List.not_mem_nil, false_or, Bool.true_or, Bool.true_eq_false, false_and, List.mem_cons]
        constructor
        · rintro ⟨h1, h2⟩; exact ⟨h1, .inr h2⟩
        · rintro ⟨h1, h2 | h2⟩
          · subst h2; exact absurd e h1
          · exact ⟨h1, h2⟩
      · rw [if_neg e]
        simp only [List.not_mem_nil, false_or, Bool.true_or, Bool.true_eq_false, false_and, List.mem_cons, or_false]
        constructor
        · rintro (h1 | ⟨h1, h2⟩)
          · subst h1; exact ⟨e, .inl rfl⟩
          · exact ⟨h1, .inr h2⟩
        · rintro ⟨h1, h2 | h2⟩
          · exact .inl h2
          · exact .inr ⟨h1, h2⟩
    | false =>
      by_cases ho : ord a n x.1 x.2.1 ≤ 0
      · rw [if_pos ⟨rfl, ho⟩, decide_eq_true ho]
        by_cases e : x.1 = a ∧ x.2.1 = n
        · rw [if_pos e]
          simp only [List.not_mem_nil, false_or, Bool.or_true, Bool.true_eq_false, false_and, List.mem_cons, or_false, true_and]
          constructor
          · rintro (h1 | ⟨h1, h2⟩)
            · exact .inl h1
            · exact .inr ⟨h1, .inr h2⟩
          · rintro (h1 | ⟨h1, h2 | h2⟩)
            · exact .inl h1
            · subst h2; exact absurd e h1
            · exact .inr ⟨h1, h2⟩
        · rw [if_neg e]
          simp only [List.not_mem_nil, false_or, Bool.or_true, Bool.true_eq_false, false_and, List.mem_cons, or_false, true_and]
          constructor
          · rintro (h1 | h1 | ⟨h1, h2⟩)
            · exact .inl h1
            · subst h1; exact .inr ⟨e, .inl rfl⟩
            · exact .inr ⟨h1, .inr h2⟩
          · rintro (h1 | ⟨h1, h2 | h2⟩)
            · exact .inl h1
            · exact .inr (.inl h2)
            · exact .inr (.inr ⟨h1, h2⟩)
      · rw [if_neg (fun h => ho h.2), decide_eq_false ho]
        have e : ¬ (x.1 = a ∧ x.2.1 = n) := fun e => ho (ord_le.2 (.inr ⟨e.1.symm, by omega⟩))
        rw [if_neg e]
        simp only [List.not_mem_nil, false_or, Bool.or_false, List.mem_cons, or_false, true_and]
        constructor
        · rintro (h1 | h1 | ⟨h1, h2⟩)
          · subst h1; exact .inr ⟨e, .inl rfl⟩
          · exact .inl h1
          · exact .inr ⟨h1, .inr h2⟩
        · rintro (h1 | ⟨h1, h2 | h2⟩)
          · exact .inr (.inl h1)
          · exact .inl h2
          · exact .inr (.inr ⟨h1, h2⟩)
theorem bp_rising {a n v : Int} {l : List (Int × Int × Int)} (h : l.Pairwise lt3) : (bp a n v false l).Pairwise lt3 := by
  induction l with
  | nil => simp [bp]
  | cons x xs ih =>
    rw [List.pairwise_cons] at h
    unfold bp
    by_cases ho : ord a n x.1 x.2.1 ≤ 0
    · rw [if_pos ⟨rfl, ho⟩, decide_eq_true ho, Bool.or_true, bp_true]
      have hf : (xs.filter (fun x => ! decide (x.1 = a ∧ x.2.1 = n))).Pairwise lt3 := h.2.sublist List.filter_sublist
      have ho' := ord_le.1 ho
      show ((a, n, v) :: ((if x.1 = a ∧ x.2.1 = n then [] else [x]) ++ xs.filter (fun x => ! decide (x.1 = a ∧ x.2.1 = n)))).Pairwise lt3
      refine List.pairwise_cons.2 ⟨fun y hy => ?_, ?_⟩
      · rcases List.mem_append.1 hy with hy | hy
        · split at hy
          · cases hy
          · rename_i e
            have hy' : y = x := by simpa using hy
            subst hy'
            unfold lt3; simp only; omega
        · have h1 := h.1 y ((List.mem_filter.1 hy).1)
          unfold lt3 at h1 ⊢; simp only; omega
      · split
        · exact hf
        · exact List.pairwise_cons.2 ⟨fun y hy => h.1 y ((List.mem_filter.1 hy).1), hf⟩
    · rw [if_neg (fun h => ho h.2), decide_eq_false ho]
      have e : ¬ (x.1 = a ∧ x.2.1 = n) := fun e => ho (ord_le.2 (.inr ⟨e.1.symm, by omega⟩))
      rw [if_neg e]
      have ho' : ¬ (a < x.1 ∨ (a = x.1 ∧ n ≤ x.2.1)) := fun h => ho (ord_le.2 h)
      refine List.pairwise_cons.2 ⟨fun y hy => ?_, ih h.2⟩
      rcases (bp_mem y).1 hy with ⟨-, rfl⟩ | ⟨-, hy⟩
      · unfold lt3; simp only; omega
      · exact h.1 y hy

/-- a put into the trie is a put into the book -/
theorem all_ins {t : Tr} {a n v : Int} (hw : WF t) (ha : vld a n = true) (a0 : 0 ≤ a) (a1 : a < 4294967296) : allT (ins t a n v) = bp a n v false (allT t) := by
  refine rising_eq (rising_allT (wf_ins hw ha a0 a1)) (bp_rising (rising_allT hw)) (fun x => ?_)
  obtain ⟨c, k, u⟩ := x
  rw [mem_allT (wf_ins hw ha a0 a1), bp_mem, mem_allT hw]
  by_cases e : c = a ∧ k = n
  · obtain ⟨rfl, rfl⟩ := e
    rw [look_put hw ha a0 a1]
    simp [eq_comm]
  · rw [look_else hw ha a0 a1 e]
    constructor
    · intro h; exact .inr ⟨e, h⟩
    · rintro (⟨-, h⟩ | ⟨-, h⟩)
      · simp only [Prod.mk.injEq] at h; exact absurd ⟨h.1, h.2.1⟩ e
      · exact h
def bput (l : List (Int × Int × Int)) (x : Int × Int × Int) : List (Int × Int × Int) := if vld x.1 x.2.1 = true then bp x.1 x.2.1 x.2.2 false l else l
theorem all_put1 {t : Tr} {x : Int × Int × Int} (hw : WF t) (hx : In32 x.1) : allT (put1 t x) = bput (allT t) x := by
  unfold put1 bput
  split
  · rename_i h; exact all_ins hw h hx.1 hx.2
  · rfl
end Go.Proofs.Ytibmhdfodmkahaa.TrM
