/- The document's choice, plain. -/
import Derived.Test.YtkahjibdmhaglaaChR
import Derived.Laws.OwnMore
namespace Go.Proofs.Ytkahjibdmhaglaa.Ch
open Go.ChangeShapes Go.WideShapes Go.ChangeAt Go.RowKit Go.Joins Go.Deep Go.Proofs.Ytkahjibdmhaglaa.Ge
set_option linter.unusedVariables false
set_option linter.unusedSimpArgs false

def EB : El Bool := ⟨4, 53, 1, 1, .bool false, fun b => [.bool b], by decide, by decide, fun _ => rfl, fun x u hu => by simp at hu; subst hu; rfl, Try.underlying53, by kernel_rfl, rfl⟩
theorem eb_rep (n : Nat) : (madeCells #[EB.z] n).toList = EB.cs (List.replicate n false) := by
  rw [toList_madeCells_one]
  simp [El.cs, EB, List.flatMap_replicate]
theorem eb_set {N g n c : Nat} {w : World} {O : List Bool} (h : OwnL EB N w (.slice (some ⟨g, 0, none⟩) n c) O) {i : Nat} (hi : i < n) (b : Bool) : w.cell? ⟨g, i, none⟩ = some (.bool (O.getD i false)) ∧ w.frozen? ⟨g, i, none⟩ = false ∧ OwnL EB N (w.setCell ⟨g, i, none⟩ (.bool b)) (.slice (some ⟨g, 0, none⟩) n c) (O.set i b) ∧ N ≤ g ∧ g < w.heap.size := by
  have hl := h.lst.2
  have hi' : i < O.length := by omega
  obtain ⟨q1, q2, q3, q4⟩ := h.at0
  have e0 : i * EB.k + 0 = i := by show i * 1 + 0 = i; omega
  have c0 := q1 i hi' 0 (by decide)
  have s0 := h.setc (E := EB) hi' (by decide : 0 < 1) (.bool b) b rfl
  rw [e0] at c0 s0
  refine ⟨?_, q2 i, s0, q4, q3⟩
  rw [c0, List.getD_eq_getElem?_getD, List.getElem?_eq_getElem hi']
  rfl
theorem eb_get {w : World} {a : Option Addr} {O : List Bool} (h : Lst EB w a O) {i : Nat} (hi : i < O.length) : ∃ b o, a = some ⟨b, o, none⟩ ∧ b < w.heap.size ∧ w.cell? ⟨b, o + i, none⟩ = some (.bool O[i]) := by
  obtain ⟨b, o, e, hl, hc⟩ := h.cells i hi
  have c0 := hc 0 (by decide)
  have e0 : o + i * EB.k + 0 = o + i := by show o + i * 1 + 0 = o + i; omega
  rw [e0] at c0
  exact ⟨b, o, e, hl, c0⟩
/-- up to n as f says -/
def bl (n : Nat) (f : Nat → Bool) : List Bool := (List.range n).map f
theorem bl_len (n : Nat) (f : Nat → Bool) : (bl n f).length = n := by simp [bl]
theorem bl_at {n i : Nat} (f : Nat → Bool) (h : i < (bl n f).length) : (bl n f)[i] = f i := by simp [bl]
theorem bl_getD {n i : Nat} (f : Nat → Bool) (h : i < n) : (bl n f).getD i false = f i := by
  rw [List.getD_eq_getElem?_getD, List.getElem?_eq_getElem (by rw [bl_len]; exact h), bl_at]
  rfl
theorem bl_set (n y : Nat) (v : Bool) (f : Nat → Bool) : (bl n f).set y v = bl n (fun j => if j = y then v else f j) := by
  unfold bl
  apply List.ext_getElem?
  intro i
  rw [List.getElem?_set, List.getElem?_map, List.getElem?_map]
  by_cases h : y = i
  · subst h
    rw [if_pos rfl]
    simp
    by_cases hi : y < n
    · simp [hi]
    · simp [hi]
  · rw [if_neg h]
    by_cases hi : i < n
    · simp [hi, Ne.symm h]
    · simp [hi]
theorem bl_congr {n : Nat} {f g : Nat → Bool} (h : ∀ i, i < n → f i = g i) : bl n f = bl n g := by
  unfold bl
  apply List.map_congr_left
  intro i hi
  exact h i (List.mem_range.1 hi)
theorem bl_false (n : Nat) : List.replicate n false = bl n (fun _ => false) := by
  unfold bl
  apply List.ext_getElem?
  intro i
  by_cases hi : i < n
  · simp [hi]
  · simp [hi]
def inF (ps : List Nat) (i : Nat) : Bool := decide (i ∈ ps)
/-- is i left of f behind k rounds of a step? -/
def svK (X : Nat → Of) (f : Nat → Bool) (s i : Nat) : Nat → Bool
  | 0 => f i
  | k + 1 => if f i && f k && bt s (X i) (X k) then false else svK X f s i k
theorem svK_all (X : Nat → Of) (f : Nat → Bool) (s i : Nat) : ∀ k, svK X f s i k = true ↔ f i = true ∧ ∀ j, j < k → f j = true → bt s (X i) (X j) = false
  | 0 => ⟨fun h => ⟨h, fun j hj => by omega⟩, fun h => h.1⟩
  | k + 1 => by
    have ih := svK_all X f s i k
    show (if f i && f k && bt s (X i) (X k) then false else svK X f s i k) = true ↔ _
    by_cases h : (f i && f k && bt s (X i) (X k)) = true
    · rw [if_pos h]
      simp only [Bool.and_eq_true] at h
      constructor
      · intro c; cases c
      · rintro ⟨-, h2⟩
        have := h2 k (by omega) h.1.2
        rw [h.2] at this
        cases this
    · rw [if_neg h, ih]
      constructor
      · rintro ⟨h1, h2⟩
        refine ⟨h1, fun j hj hf => ?_⟩
        rcases Nat.lt_succ_iff_lt_or_eq.1 hj with h3 | rfl
        · exact h2 j h3 hf
        · cases hb : bt s (X i) (X j)
          · rfl
          · exact absurd (by rw [h1, hf, hb]; rfl) h
      · rintro ⟨h1, h2⟩
        exact ⟨h1, fun j hj hf => h2 j (by omega) hf⟩
theorem svK_surv {X : Nat → Of} {ps : List Nat} {n : Nat} (h : InN ps n) (s i : Nat) : svK X (inF ps) s i n = inF (surv X ps s) i := by
  rw [Bool.eq_iff_iff, svK_all]
  unfold inF
  rw [decide_eq_true_iff, decide_eq_true_iff, mem_surv]
  refine and_congr_right fun _ => ⟨fun h1 j hj => h1 j (h j hj) (decide_eq_true hj), fun h1 j _ hj => h1 j (of_decide_eq_true hj)⟩
/-- what s - 2 steps leave -/
def lfS (X : Nat → Of) (ps : List Nat) : Nat → List Nat
  | 0 => ps
  | k + 1 => surv X (lfS X ps k) (k + 2)
theorem lfS_sub (X : Nat → Of) (ps : List Nat) : ∀ k, (lfS X ps k).Sublist ps
  | 0 => List.Sublist.refl _
  | k + 1 => (surv_sub X (k + 2) _).trans (lfS_sub X ps k)
theorem lfS_in {X : Nat → Of} {ps : List Nat} {n : Nat} (h : InN ps n) (k : Nat) : InN (lfS X ps k) n := fun i hi => h i ((lfS_sub X ps k).subset hi)
theorem lfS_6 (X : Nat → Of) (ps : List Nat) : lfS X ps 6 = evP X ps := rfl
theorem lfS_9 (X : Nat → Of) (ps : List Nat) : lfS X ps 9 = leftP X [8, 9, 10] (evP X ps) := rfl
/-- is there one ahead of i? -/
def anK (f : Nat → Bool) : Nat → Bool
  | 0 => false
  | k + 1 => anK f k || (f k && !anK f k)
/-- the first of them alone -/
def fsF (f : Nat → Bool) (i : Nat) : Bool := f i && !anK f i
theorem an_iff (f : Nat → Bool) : ∀ k, anK f k = true ↔ ∃ j, j < k ∧ f j = true
  | 0 => ⟨fun h => (by cases h), fun ⟨j, hj, _⟩ => by omega⟩
  | k + 1 => by
    have ih := an_iff f k
    show (anK f k || (f k && !anK f k)) = true ↔ _
    rw [Bool.or_eq_true, Bool.and_eq_true, ih]
    constructor
    · rintro (⟨j, hj, h⟩ | ⟨h, -⟩)
      · exact ⟨j, by omega, h⟩
      · exact ⟨k, by omega, h⟩
    · rintro ⟨j, hj, h⟩
      rcases Nat.lt_succ_iff_lt_or_eq.1 hj with h1 | rfl
      · exact .inl ⟨j, h1, h⟩
      · cases ha : anK f j
        · exact .inr ⟨h, rfl⟩
        · exact .inl (ih.1 ha)
def firstP (f : Nat → Bool) (n : Nat) : Option Nat := (List.range n).find? f
theorem first_some {f : Nat → Bool} {n i : Nat} (hi : i < n) (h : f i = true) (hb : ∀ j, j < i → f j = false) : firstP f n = some i := by
  unfold firstP
  rw [List.find?_range_eq_some]
  exact ⟨h, List.mem_range.2 hi, fun j hj => by rw [hb j hj]; rfl⟩
theorem first_none {f : Nat → Bool} {n : Nat} (h : ∀ j, j < n → f j = false) : firstP f n = none := by
  unfold firstP
  rw [List.find?_eq_none]
  intro j hj
  rw [h j (List.mem_range.1 hj)]
  decide
theorem first_fs (f : Nat → Bool) (n : Nat) : firstP (fsF f) n = firstP f n := by
  cases h : firstP f n with
  | none =>
    refine first_none fun j hj => ?_
    have h1 := (List.find?_eq_none.1 h) j (List.mem_range.2 hj)
    unfold fsF
    cases hf : f j
    · rfl
    · exact absurd hf h1
  | some i =>
    unfold firstP at h
    rw [List.find?_range_eq_some] at h
    obtain ⟨h1, h2, h3⟩ := h
    have hlt := List.mem_range.1 h2
    have hno : ∀ j, j < i → f j = false := fun j hj => by
      have := h3 j hj
      cases hf : f j
      · rfl
      · rw [hf] at this; cases this
    refine first_some hlt ?_ (fun j hj => by unfold fsF; rw [hno j hj]; rfl)
    unfold fsF
    rw [h1]
    cases ha : anK f i
    · rfl
    · obtain ⟨j, hj, hf⟩ := (an_iff f i).1 ha
      rw [hno j hj] at hf
      cases hf
theorem first_head {L : List Nat} {n : Nat} (hp : L.Pairwise (· < ·)) (hn : InN L n) : firstP (inF L) n = L.head? := by
  cases L with
  | nil => exact first_none fun j hj => rfl
  | cons x t =>
    have h1 := (List.pairwise_cons.1 hp).1
    refine first_some (hn x List.mem_cons_self) (decide_eq_true List.mem_cons_self) (fun j hj => decide_eq_false fun hm => ?_)
    rcases List.mem_cons.1 hm with rfl | h2
    · omega
    · have := h1 j h2; omega
/-- the places that can be reached and are not struck out -/
def psP (X : Nat → Of) (n : Nat) (g : Nat → Bool) : List Nat := (rchP X n).filter (fun i => !g i)
theorem ps_in (X : Nat → Of) (n : Nat) (g : Nat → Bool) : InN (psP X n g) n := fun i hi => rch_in X n i (List.mem_filter.1 hi).1
theorem ps_mem {X : Nat → Of} {n i : Nat} {g : Nat → Bool} (hi : i < n) : inF (psP X n g) i = (!g i && decide (0 ≤ (X i).cost)) := by
  unfold inF psP rchP
  rw [Bool.eq_iff_iff, decide_eq_true_iff, List.mem_filter, List.mem_filter, Bool.and_eq_true, List.mem_range]
  constructor
  · rintro ⟨⟨-, h1⟩, h2⟩; exact ⟨h2, h1⟩
  · rintro ⟨h2, h1⟩; exact ⟨⟨hi, h1⟩, h2⟩
theorem ps_pw (X : Nat → Of) (n : Nat) (g : Nat → Bool) : (psP X n g).Pairwise (· < ·) := (List.pairwise_lt_range.sublist List.filter_sublist).sublist List.filter_sublist
theorem ps_none (X : Nat → Of) (n : Nat) : psP X n (fun _ => false) = rchP X n := by
  unfold psP
  rw [List.filter_eq_self]
  intro i _
  rfl
/-- what ChooseLeft answers: behind 7 steps, or behind 11 -/
def lfF (X : Nat → Of) (ps : List Nat) (t : Nat) : Nat → Bool := if t ≤ 10 then inF (lfS X ps (t - 1)) else fsF (inF (lfS X ps 9))
theorem first_best {X : Nat → Of} {ps : List Nat} {n : Nat} (hp : ps.Pairwise (· < ·)) (hn : InN ps n) : firstP (lfF X ps 11) n = bsP X ps := by
  unfold lfF
  rw [if_neg (by decide), first_fs, first_head (hp.sublist (lfS_sub X ps 9)) (lfS_in hn 9), lfS_9]
  rfl
end Go.Proofs.Ytkahjibdmhaglaa.Ch
