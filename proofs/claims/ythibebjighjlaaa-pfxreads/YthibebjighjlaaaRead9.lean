/- The document's ParseAddr and Parse, and that the code's answer the same, at every text. -/
import Derived.Test.YthibebjighjlaaaRead8
import Derived.Test.YthibebjighjlaaaAsk3
namespace Go.Proofs.Ythibebjighjlaaa.Rd
open Go.ChangeShapes Go.WideShapes Go.ChangeAt Go.RowKit Go.Proofs.Ythibebjighjlaaa.TM Go.Proofs.Ythibebjighjlaaa.PM Go.Proofs.Ythibebjighjlaaa.Ask
set_option linter.unusedVariables false

/-! ### the document's places and the code's rests -/
theorem num_same {r : List UInt8} {v : Int} {c : Nat} (h : rnM r 3 = some (v, c)) : numQ r = some (v, r.drop c) := by
  unfold rnM at h
  split at h
  · rename_i hk
    simp at h
    obtain ⟨rfl, rfl⟩ := h
    have e : min (nd r) 3 = min (nd r) 4 := by omega
    unfold numQ
    rw [e, if_pos hk.1]
  · cases h
theorem num_else {r : List UInt8} (h : rnM r 3 = none) : numQ r = none ∨ ∃ v t d, numQ r = some (v, t) ∧ t[0]? = some d ∧ isD d = true := by
  unfold rnM at h
  split at h
  · cases h
  · rename_i hk
    by_cases e : nd r ≤ 3
    · left
      have e1 : min (nd r) 3 = min (nd r) 4 := by omega
      unfold numQ
      rw [e1, if_neg (fun h2 => hk ⟨h2, by omega⟩)]
    · unfold numQ
      split
      · right
        obtain ⟨d, hd, hd2⟩ := nd_get r 3 (by omega)
        have e2 : min (nd r) 3 = 3 := by omega
        exact ⟨_, _, d, rfl, by rw [e2, List.getElem?_drop]; exact hd, hd2⟩
      · left; rfl
theorem dig_not (d : UInt8) (h : isD d = true) (c : UInt8) (hc : isD c = false) : ¬ d = c := by
  intro e; subst e; rw [h] at hc; cases hc
theorem dotQ_dig {t : List UInt8} {d : UInt8} (h : t[0]? = some d) (hd : isD d = true) : dotQ t = none := by
  cases t with
  | nil => rfl
  | cons x t => simp at h; subst h; unfold dotQ; exact if_neg (dig_not x hd 46 (by decide))
theorem slQ_dig {t : List UInt8} {d : UInt8} (h : t[0]? = some d) (hd : isD d = true) : slQ t = none := by
  cases t with
  | nil => rfl
  | cons x t => simp at h; subst h; unfold slQ; exact if_neg (dig_not x hd 47 (by decide))
theorem dotQ_drop (L : List UInt8) (i : Nat) : dotQ (L.drop i) = if L[i]? = some 46 then some (L.drop (i + 1)) else none := by
  cases e : L.drop i with
  | nil =>
    have : L[i]? = none := by rw [List.drop_eq_nil_iff] at e; exact List.getElem?_eq_none e
    rw [this]; rfl
  | cons x t =>
    have h1 : L[i]? = some x := by have := List.getElem?_drop (xs := L) (i := i) (j := 0); rw [e] at this; simpa using this.symm
    have h2 : L.drop (i + 1) = t := by rw [← List.drop_drop, e]; rfl
    rw [h1, h2]
    unfold dotQ
    by_cases hx : x = 46 <;> simp [hx]
theorem slQ_drop (L : List UInt8) (i : Nat) : slQ (L.drop i) = if L[i]? = some 47 then some (L.drop (i + 1)) else none := by
  cases e : L.drop i with
  | nil =>
    have : L[i]? = none := by rw [List.drop_eq_nil_iff] at e; exact List.getElem?_eq_none e
    rw [this]; rfl
  | cons x t =>
    have h1 : L[i]? = some x := by have := List.getElem?_drop (xs := L) (i := i) (j := 0); rw [e] at this; simpa using this.symm
    have h2 : L.drop (i + 1) = t := by rw [← List.drop_drop, e]; rfl
    rw [h1, h2]
    unfold slQ
    by_cases hx : x = 47 <;> simp [hx]

/-- one step on both sides -/
theorem step_same {L : List UInt8} {i : Nat} (hi : i ≤ L.length) :
    (∃ v j, stP L i = some (v, j) ∧ (dotQ (L.drop i)).bind numQ = some (v, L.drop j) ∧ j ≤ L.length) ∨
    (stP L i = none ∧ ((dotQ (L.drop i)).bind numQ = none ∨ ∃ v t d, (dotQ (L.drop i)).bind numQ = some (v, t) ∧ t[0]? = some d ∧ isD d = true)) := by
  rw [dotQ_drop]
  unfold stP
  by_cases h : L[i]? = some 46
  · have hlt : i < L.length := by
      by_cases e : i < L.length
      · exact e
      · rw [List.getElem?_eq_none (by omega)] at h; cases h
    rw [if_pos h, if_pos h]
    simp only [Option.bind_some]
    cases e : nmP L (i + 1) with
    | some y =>
      obtain ⟨v, j⟩ := y
      obtain ⟨_, h2, _, c, h4, h5⟩ := nmP_some (by omega) e
      left
      refine ⟨v, j, rfl, ?_, h2⟩
      rw [num_same h4, List.drop_drop, h5]
    | none => right; exact ⟨rfl, num_else (nmP_none e)⟩
  · rw [if_neg h, if_neg h]; right; exact ⟨rfl, .inl rfl⟩
theorem first_same {L : List UInt8} :
    (∃ v j, nmP L 0 = some (v, j) ∧ numQ L = some (v, L.drop j) ∧ j ≤ L.length) ∨
    (nmP L 0 = none ∧ (numQ L = none ∨ ∃ v t d, numQ L = some (v, t) ∧ t[0]? = some d ∧ isD d = true)) := by
  cases e : nmP L 0 with
  | some y =>
    obtain ⟨v, j⟩ := y
    obtain ⟨_, h2, _, c, h4, h5⟩ := nmP_some (by omega) e
    left
    refine ⟨v, j, rfl, ?_, h2⟩
    have := num_same h4
    simp only [List.drop_zero] at this
    rw [this, h5]; simp
  | none => right; have := num_else (nmP_none e); simp only [List.drop_zero] at this; exact ⟨rfl, this⟩

theorem bind_num {L : List UInt8} {α : Type} (o : Option (List UInt8)) (f : Int × List UInt8 → Option α) : (o.bind fun t => (numQ t).bind f) = (o.bind numQ).bind f := by
  cases o <;> rfl

theorem same1 (L : List UInt8) : (∃ a i, pq1 L = some (a, i) ∧ rq1 L = some (a, L.drop i) ∧ i ≤ L.length) ∨ (pq1 L = none ∧ (rq1 L = none ∨ ∃ a t d, rq1 L = some (a, t) ∧ t[0]? = some d ∧ isD d = true)) := first_same
theorem same2 (L : List UInt8) : (∃ a b i, pq2 L = some (a, b, i) ∧ rq2 L = some (a, b, L.drop i) ∧ i ≤ L.length) ∨ (pq2 L = none ∧ (rq2 L = none ∨ ∃ a b t d, rq2 L = some (a, b, t) ∧ t[0]? = some d ∧ isD d = true)) := by
  unfold pq2 rq2
  rcases same1 L with ⟨a, i, h1, h2, hi⟩ | ⟨h1, h2 | ⟨a, t, d, h2, h3, h4⟩⟩
  · rw [h1, h2]
    simp only [Option.bind_some, bind_num (L := L)]
    rcases step_same hi with ⟨v, j, h5, h6, h7⟩ | ⟨h5, h6 | ⟨v, t, d, h6, h7, h8⟩⟩
    · left; rw [h5, h6]; exact ⟨a, v, j, rfl, rfl, h7⟩
    · right; rw [h5, h6]; exact ⟨rfl, .inl rfl⟩
    · right; rw [h5, h6]; exact ⟨rfl, .inr ⟨a, v, t, d, rfl, h7, h8⟩⟩
  · right; rw [h1, h2]; exact ⟨rfl, .inl rfl⟩
  · right; rw [h1, h2]; refine ⟨rfl, .inl ?_⟩; simp only [Option.bind_some, dotQ_dig h3 h4, Option.bind_none]
theorem same3 (L : List UInt8) : (∃ a b c i, pq3 L = some (a, b, c, i) ∧ rq3 L = some (a, b, c, L.drop i) ∧ i ≤ L.length) ∨ (pq3 L = none ∧ (rq3 L = none ∨ ∃ a b c t d, rq3 L = some (a, b, c, t) ∧ t[0]? = some d ∧ isD d = true)) := by
  unfold pq3 rq3
  rcases same2 L with ⟨a, b, i, h1, h2, hi⟩ | ⟨h1, h2 | ⟨a, b, t, d, h2, h3, h4⟩⟩
  · rw [h1, h2]
    simp only [Option.bind_some, bind_num (L := L)]
    rcases step_same hi with ⟨v, j, h5, h6, h7⟩ | ⟨h5, h6 | ⟨v, t, d, h6, h7, h8⟩⟩
    · left; rw [h5, h6]; exact ⟨a, b, v, j, rfl, rfl, h7⟩
    · right; rw [h5, h6]; exact ⟨rfl, .inl rfl⟩
    · right; rw [h5, h6]; exact ⟨rfl, .inr ⟨a, b, v, t, d, rfl, h7, h8⟩⟩
  · right; rw [h1, h2]; exact ⟨rfl, .inl rfl⟩
  · right; rw [h1, h2]; refine ⟨rfl, .inl ?_⟩; simp only [Option.bind_some, dotQ_dig h3 h4, Option.bind_none]
theorem same4 (L : List UInt8) : (∃ a b c d i, pq4 L = some (a, b, c, d, i) ∧ rq4 L = some (a, b, c, d, L.drop i) ∧ i ≤ L.length) ∨ (pq4 L = none ∧ (rq4 L = none ∨ ∃ a b c e t d, rq4 L = some (a, b, c, e, t) ∧ t[0]? = some d ∧ isD d = true)) := by
  unfold pq4 rq4
  rcases same3 L with ⟨a, b, c, i, h1, h2, hi⟩ | ⟨h1, h2 | ⟨a, b, c, t, d, h2, h3, h4⟩⟩
  · rw [h1, h2]
    simp only [Option.bind_some, bind_num (L := L)]
    rcases step_same hi with ⟨v, j, h5, h6, h7⟩ | ⟨h5, h6 | ⟨v, t, d, h6, h7, h8⟩⟩
    · left; rw [h5, h6]; exact ⟨a, b, c, v, j, rfl, rfl, h7⟩
    · right; rw [h5, h6]; exact ⟨rfl, .inl rfl⟩
    · right; rw [h5, h6]; exact ⟨rfl, .inr ⟨a, b, c, v, t, d, rfl, h7, h8⟩⟩
  · right; rw [h1, h2]; exact ⟨rfl, .inl rfl⟩
  · right; rw [h1, h2]; refine ⟨rfl, .inl ?_⟩; simp only [Option.bind_some, dotQ_dig h3 h4, Option.bind_none]

/-- what the document's ParseAddr answers -/
def paR (L : List UInt8) : Int × Int := match pq4 L with
  | none => (0, 1)
  | some (a, b, c, d, i) => if i = L.length then (if fineB a b c d = true then (jt (a % 256) (b % 256) (c % 256) (d % 256) 4, 0) else (0, 2)) else (0, 1)
theorem jt_fine {a b c d : Int} (h : fineB a b c d = true) (b0 : 0 ≤ a) (b1 : 0 ≤ b) (b2 : 0 ≤ c) (b3 : 0 ≤ d) : jt (a % 256) (b % 256) (c % 256) (d % 256) 4 = jt a b c d 4 := by
  simp only [fineB, decide_eq_true_eq] at h; simp only [jt]; omega
theorem drop_nil_iff (L : List UInt8) (i : Nat) (hi : i ≤ L.length) : L.drop i = [] ↔ i = L.length := by
  rw [List.drop_eq_nil_iff]; omega
theorem pa_same (L : List UInt8) : paC L = paR L := by
  rcases same4 L with ⟨a, b, c, d, i, h1, h2, hi⟩ | ⟨h1, h2 | ⟨a, b, c, e, t, d, h2, h3, h4⟩⟩
  · obtain ⟨b0, b1, b2, b3, _⟩ := rq4_bd h2
    unfold paC paR
    rw [h1, h2]
    simp only [drop_nil_iff L i hi]
    by_cases hf : fineB a b c d = true
    · rw [if_pos hf, if_pos hf, jt_fine hf b0.1 b1.1 b2.1 b3.1]
    · rw [if_neg hf, if_neg hf]
  · unfold paC paR; rw [h1, h2]
  · unfold paC paR; rw [h1, h2]
    have : ¬ t = [] := by intro e; rw [e] at h3; simp at h3
    simp [this]

/-- what the document's Parse answers -/
def prR (L : List UInt8) : Int × Int × Int := match pq4 L with
  | none => (0, 0, 1)
  | some (a, b, c, d, i) => if L[i]? = some 47 then
      (match rnM (L.drop (i + 1)) 2 with
      | none => (0, 0, 1)
      | some (n, k) => if i + 1 + k = L.length then (if fineB a b c d = true ∧ n ≤ 32 then (if vld (jt (a % 256) (b % 256) (c % 256) (d % 256) 4) n = true then (jt (a % 256) (b % 256) (c % 256) (d % 256) 4, n, 0) else (0, 0, 3)) else (0, 0, 2)) else (0, 0, 1))
    else (0, 0, 1)
theorem two_same {r : List UInt8} {v : Int} {c : Nat} (h : rnM r 2 = some (v, c)) : num2 r = some (v, r.drop c) := by
  unfold rnM at h
  split at h
  · rename_i hk
    simp at h
    obtain ⟨rfl, rfl⟩ := h
    have e : min (nd r) 2 = min (nd r) 4 := by omega
    unfold num2
    rw [e, if_pos hk.1]
  · cases h
theorem two_else {r : List UInt8} (h : rnM r 2 = none) : num2 r = none ∨ ∃ v t, num2 r = some (v, t) ∧ ¬ t = [] := by
  unfold rnM at h
  split at h
  · cases h
  · rename_i hk
    by_cases e : nd r ≤ 2
    · left
      have e1 : min (nd r) 2 = min (nd r) 4 := by omega
      unfold num2
      rw [e1, if_neg (fun h2 => hk ⟨h2, by omega⟩)]
    · unfold num2
      split
      · right
        have := nd_le r
        exact ⟨_, _, rfl, by rw [List.drop_eq_nil_iff]; omega⟩
      · left; rfl
theorem pr_same (L : List UInt8) : prC L = prR L := by
  rcases same4 L with ⟨a, b, c, d, i, h1, h2, hi⟩ | ⟨h1, h2 | ⟨a, b, c, e, t, d, h2, h3, h4⟩⟩
  · obtain ⟨b0, b1, b2, b3, _⟩ := rq4_bd h2
    unfold prC prR
    rw [h1, h2]
    simp only [slQ_drop]
    by_cases hs : L[i]? = some 47
    · rw [if_pos hs, if_pos hs]
      have hlt : i < L.length := by
        by_cases e : i < L.length
        · exact e
        · rw [List.getElem?_eq_none (by omega)] at hs; cases hs
      simp only
      cases e : rnM (L.drop (i + 1)) 2 with
      | none =>
        rcases two_else e with h | ⟨v, t, h, ht⟩
        · rw [h]
        · rw [h]; simp only; rw [if_neg ht]
      | some y =>
        obtain ⟨n, k⟩ := y
        rw [two_same e]
        have hk := rnM_some (by omega) e
        simp only [List.length_drop] at hk
        simp only [List.drop_drop, drop_nil_iff L (i + 1 + k) (by omega)]
        by_cases hf : fineB a b c d = true
        · rw [jt_fine hf b0.1 b1.1 b2.1 b3.1]
        · simp [hf]
    · rw [if_neg hs, if_neg hs]
  · unfold prC prR; rw [h1, h2]
  · unfold prC prR; rw [h1, h2]
    simp only [slQ_dig h3 h4]
end Go.Proofs.Ythibebjighjlaaa.Rd
