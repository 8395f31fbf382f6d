/- Sets of addresses as spans, and the prefixes that they are cut into: plain. -/
import Derived.Test.YtagfdmkgnedlbabDoorPMath
import Derived.Lib.TrailingZeros
import Derived.Lib.BitFns
namespace Go.Proofs.YtagfdmkgnedlbabDoor.Pc
open Go.Proofs.YtagfdmkgnedlbabDoor.PM
set_option linter.unusedVariables false

/-- spans that rise, with an address between any two -/
def SpOk : Int → List (Int × Int) → Prop
  | _, [] => True
  | lo, s :: l => lo < s.1 ∧ s.1 < s.2 ∧ SpOk s.2 l
def inS (l : List (Int × Int)) (x : Int) : Prop := ∃ s ∈ l, s.1 ≤ x ∧ x < s.2
theorem inS_cons {s : Int × Int} {l : List (Int × Int)} {x : Int} : inS (s :: l) x ↔ (s.1 ≤ x ∧ x < s.2) ∨ inS l x := by
  unfold inS
  constructor
  · rintro ⟨t, ht, h⟩
    rcases List.mem_cons.1 ht with rfl | ht
    · exact Or.inl h
    · exact Or.inr ⟨t, ht, h⟩
  · rintro (h | ⟨t, ht, h⟩)
    · exact ⟨s, by simp, h⟩
    · exact ⟨t, List.mem_cons_of_mem _ ht, h⟩
theorem inS_nil {x : Int} : ¬ inS [] x := fun ⟨t, ht, _⟩ => by cases ht
theorem SpOk.low : ∀ {lo : Int} {l : List (Int × Int)} {x : Int}, SpOk lo l → inS l x → lo < x
  | lo, [], x, _, hx => absurd hx inS_nil
  | lo, s :: l, x, h, hx => by
    rcases inS_cons.1 hx with h1 | h1
    · have := h.1; omega
    · have h2 := SpOk.low h.2.2 h1
      have := h.1
      have := h.2.1
      omega
/-- a set of addresses has just one such list -/
theorem sp_uniq : ∀ (l l' : List (Int × Int)) (lo lo' : Int), SpOk lo l → SpOk lo' l' → (∀ x, inS l x ↔ inS l' x) → l = l'
  | [], [], _, _, _, _, _ => rfl
  | [], s :: l, _, _, _, h', hx => absurd ((hx s.1).2 (inS_cons.2 (Or.inl ⟨Int.le_refl _, h'.2.1⟩))) inS_nil
  | s :: l, [], _, _, h, _, hx => absurd ((hx s.1).1 (inS_cons.2 (Or.inl ⟨Int.le_refl _, h.2.1⟩))) inS_nil
  | s :: l, s' :: l', _, _, h, h', hx => by
    have le1 : ∀ {s s' : Int × Int} {l l' : List (Int × Int)}, SpOk s'.2 l' → s'.1 < s'.2 → inS (s' :: l') s.1 → s'.1 ≤ s.1 := fun hs hlt hi => by
      rcases inS_cons.1 hi with h1 | h1
      · exact h1.1
      · have := hs.low h1; omega
    have f1 := le1 (l := l) h'.2.2 h'.2.1 ((hx s.1).1 (inS_cons.2 (Or.inl ⟨Int.le_refl _, h.2.1⟩)))
    have f2 := le1 (l := l') h.2.2 h.2.1 ((hx s'.1).2 (inS_cons.2 (Or.inl ⟨Int.le_refl _, h'.2.1⟩)))
    have ff : s.1 = s'.1 := by omega
    have ge : ∀ {s s' : Int × Int} {l l' : List (Int × Int)}, s.1 = s'.1 → SpOk s.2 l → s.1 < s.2 → (∀ x, inS (s :: l) x ↔ inS (s' :: l') x) → s'.2 ≤ s.2 := fun {s s' l l'} e hs hlt hx => by
      by_cases hlt2 : s.2 < s'.2
      · rcases inS_cons.1 ((hx s.2).2 (inS_cons.2 (Or.inl ⟨by omega, hlt2⟩))) with h1 | h1
        · omega
        · have := hs.low h1; omega
      · omega
    have e1 := ge ff h.2.2 h.2.1 hx
    have e2 := ge ff.symm h'.2.2 h'.2.1 (fun x => (hx x).symm)
    have ee : s.2 = s'.2 := by omega
    have hs : s = s' := Prod.ext ff ee
    subst hs
    congr 1
    refine sp_uniq l l' s.2 s.2 h.2.2 h'.2.2 (fun x => ⟨fun h1 => ?_, fun h1 => ?_⟩)
    · have h2 := h.2.2.low h1
      rcases inS_cons.1 ((hx x).1 (inS_cons.2 (Or.inr h1))) with h3 | h3
      · omega
      · exact h3
    · have h2 := h'.2.2.low h1
      rcases inS_cons.1 ((hx x).2 (inS_cons.2 (Or.inr h1))) with h3 | h3
      · omega
      · exact h3
/-- one span more, that begins behind where the last one begins -/
def stepS : List (Int × Int) → Int × Int → List (Int × Int)
  | [], p => [p]
  | [s], p => if p.1 ≤ s.2 then [(s.1, max s.2 p.2)] else [s, p]
  | s :: t :: l, p => s :: stepS (t :: l) p
theorem stepS_ne (l : List (Int × Int)) (p : Int × Int) : stepS l p ≠ [] := by
  match l with
  | [] => simp [stepS]
  | [s] => unfold stepS; split <;> simp
  | s :: t :: l => simp [stepS]
theorem step_spec : ∀ (l : List (Int × Int)) (p : Int × Int) (lo : Int), SpOk lo l → lo < p.1 → p.1 < p.2 → (∀ s ∈ l, s.1 ≤ p.1) → SpOk lo (stepS l p) ∧ (∀ x, inS (stepS l p) x ↔ inS l x ∨ (p.1 ≤ x ∧ x < p.2)) ∧ ∀ s ∈ stepS l p, s.1 ≤ p.1
  | [], p, lo, _, h0, h1, _ => ⟨⟨h0, h1, trivial⟩, fun x => by rw [stepS, inS_cons]; constructor <;> (rintro (h | h)) <;> first | exact Or.inr h | exact Or.inl h | exact absurd h inS_nil, fun s hs => by simp [stepS] at hs; subst hs; exact Int.le_refl _⟩
  | [s], p, lo, h, h0, h1, hs => by
    have hsp := hs s (by simp)
    obtain ⟨a1, a2, -⟩ := h
    unfold stepS
    split
    · rename_i hle
      refine ⟨⟨a1, by show s.1 < max s.2 p.2; omega, trivial⟩, fun x => ?_, fun t ht => by simp at ht; subst ht; exact hsp⟩
      rw [inS_cons, inS_cons]
      constructor
      · rintro (h2 | h2)
        · have h3 : s.1 ≤ x ∧ x < max s.2 p.2 := h2
          by_cases h4 : x < s.2
          · exact Or.inl (Or.inl ⟨h3.1, h4⟩)
          · exact Or.inr ⟨by omega, by omega⟩
        · exact absurd h2 inS_nil
      · rintro ((h2 | h2) | h2)
        · exact Or.inl ⟨h2.1, by show x < max s.2 p.2; omega⟩
        · exact absurd h2 inS_nil
        · exact Or.inl ⟨by show s.1 ≤ x; omega, by show x < max s.2 p.2; omega⟩
    · rename_i hle
      refine ⟨⟨a1, a2, by omega, h1, trivial⟩, fun x => ?_, fun t ht => ?_⟩
      · rw [inS_cons, inS_cons, inS_cons]
        constructor
        · rintro (h2 | h2 | h2)
          · exact Or.inl (Or.inl h2)
          · exact Or.inr h2
          · exact absurd h2 inS_nil
        · rintro ((h2 | h2) | h2)
          · exact Or.inl h2
          · exact absurd h2 inS_nil
          · exact Or.inr (Or.inl h2)
      · simp at ht
        rcases ht with rfl | rfl
        · exact hsp
        · exact Int.le_refl _
  | s :: t :: l, p, lo, h, h0, h1, hs => by
    obtain ⟨a1, a2, a3⟩ := h
    have ht := hs t (by simp)
    have hb : s.2 < p.1 := by have := a3.1; omega
    obtain ⟨b1, b2, b3⟩ := step_spec (t :: l) p s.2 a3 hb h1 (fun u hu => hs u (List.mem_cons_of_mem _ hu))
    refine ⟨⟨a1, a2, b1⟩, fun x => ?_, fun u hu => ?_⟩
    · show inS (s :: stepS (t :: l) p) x ↔ _
      rw [inS_cons, b2 x, inS_cons (s := s)]
      constructor
      · rintro (h2 | h2 | h2)
        · exact Or.inl (Or.inl h2)
        · exact Or.inl (Or.inr h2)
        · exact Or.inr h2
      · rintro ((h2 | h2) | h2)
        · exact Or.inl h2
        · exact Or.inr (Or.inl h2)
        · exact Or.inr (Or.inr h2)
    · have hu' : u ∈ s :: stepS (t :: l) p := hu
      rcases List.mem_cons.1 hu' with rfl | hu'
      · exact hs _ (by simp)
      · exact b3 u hu'
/-- in memory: the last one is turned, or one is appended -/
theorem step_last (r : List (Int × Int)) (s p : Int × Int) : stepS (r ++ [s]) p = if p.1 ≤ s.2 then r ++ [(s.1, max s.2 p.2)] else r ++ [s] ++ [p] := by
  induction r with
  | nil => simp [stepS]
  | cons t r ih =>
    have e : t :: r ++ [s] = t :: (r ++ [s]) := rfl
    rw [e]
    obtain ⟨u, v, huv⟩ : ∃ u v, r ++ [s] = u :: v := by
      cases hr : r ++ [s] with
      | nil => simp at hr
      | cons u v => exact ⟨u, v, rfl⟩
    rw [huv]
    show t :: stepS (u :: v) p = _
    rw [← huv, ih]
    split <;> simp
/-- the shortest length of a prefix that begins at lo and does not pass hi -/
def down (lo hi : Int) : Nat → Nat
  | 0 => 0
  | n + 1 => if lo % psz (n : Int) = 0 ∧ lo + psz (n : Int) ≤ hi then down lo hi n else n + 1
def Fit (lo hi : Int) (n : Nat) : Prop := lo % psz (n : Int) = 0 ∧ lo + psz (n : Int) ≤ hi
theorem fit_up {lo hi : Int} {n : Nat} (h : Fit lo hi n) (hn : n < 32) : Fit lo hi (n + 1) := by
  obtain ⟨h1, h2⟩ := h
  have e := psz_succ (n : Int) (by omega) (by omega)
  have hp := psz_pos ((n : Int) + 1)
  have e2 : (((n + 1 : Nat)) : Int) = (n : Int) + 1 := by omega
  unfold Fit
  rw [e2]
  refine ⟨?_, by omega⟩
  rw [e] at h1
  have h3 : lo % psz ((n : Int) + 1) = (lo % (2 * psz ((n : Int) + 1))) % psz ((n : Int) + 1) := by
    rw [Int.emod_emod_of_dvd]
    exact Int.dvd_mul_left _ _
  rw [h3, h1]
  simp
theorem fit_le {lo hi : Int} {n m : Nat} (h : Fit lo hi n) (hnm : n ≤ m) (hm : m ≤ 32) : Fit lo hi m := by
  induction m with
  | zero => have : n = 0 := by omega
            subst this; exact h
  | succ m ih =>
    by_cases e : n = m + 1
    · subst e; exact h
    · exact fit_up (ih (by omega) (by omega)) (by omega)
theorem down_spec {lo hi : Int} : ∀ (n : Nat), n ≤ 32 → Fit lo hi n → Fit lo hi (down lo hi n) ∧ down lo hi n ≤ n ∧ (down lo hi n = 0 ∨ ¬ Fit lo hi (down lo hi n - 1))
  | 0, _, h => ⟨h, Nat.le_refl _, Or.inl rfl⟩
  | n + 1, hn, h => by
    unfold down
    by_cases hc : lo % psz (n : Int) = 0 ∧ lo + psz (n : Int) ≤ hi
    · rw [if_pos hc]
      obtain ⟨h1, h2, h3⟩ := down_spec n (by omega) hc
      exact ⟨h1, by omega, h3⟩
    · rw [if_neg hc]
      exact ⟨h, Nat.le_refl _, Or.inr (by rw [Nat.add_sub_cancel]; exact hc)⟩
theorem fit32 {lo hi : Int} (h : lo < hi) : Fit lo hi 32 := by
  unfold Fit
  have : psz ((32 : Nat) : Int) = 1 := psz_32
  rw [this]
  omega
theorem down_uniq {lo hi : Int} {m : Nat} (h : lo < hi) (hm : m ≤ 32) (h1 : Fit lo hi m) (h2 : m = 0 ∨ ¬ Fit lo hi (m - 1)) : down lo hi 32 = m := by
  obtain ⟨a1, a2, a3⟩ := down_spec 32 (Nat.le_refl _) (fit32 h)
  obtain ⟨d, hd⟩ : ∃ d, down lo hi 32 = d := ⟨_, rfl⟩
  rw [hd] at a1 a2 a3 ⊢
  by_cases e : d < m
  · rcases h2 with h2 | h2
    · omega
    · exact absurd (fit_le a1 (by omega) (by omega)) h2
  · by_cases e2 : m < d
    · rcases a3 with h3 | h3
      · omega
      · exact absurd (fit_le h1 (by omega) (by omega)) h3
    · omega
def splitF : Nat → Int → Int → List (Int × Int)
  | 0, _, _ => []
  | f + 1, lo, hi => if lo < hi then (lo, (down lo hi 32 : Int)) :: splitF f (lo + psz (down lo hi 32 : Int)) hi else []
def split (lo hi : Int) : List (Int × Int) := splitF (hi - lo).toNat lo hi
theorem splitF_more : ∀ (f g : Nat) (lo hi : Int), (hi - lo).toNat ≤ f → (hi - lo).toNat ≤ g → splitF f lo hi = splitF g lo hi
  | 0, 0, _, _, _, _ => rfl
  | 0, g + 1, lo, hi, h, _ => by
    unfold splitF
    rw [if_neg (by omega)]
  | f + 1, 0, lo, hi, _, h => by
    unfold splitF
    rw [if_neg (by omega)]
  | f + 1, g + 1, lo, hi, h1, h2 => by
    unfold splitF
    split
    · have hp := psz_pos (down lo hi 32 : Int)
      rw [splitF_more f g _ hi (by omega) (by omega)]
    · rfl
theorem split_nil {lo hi : Int} (h : ¬ lo < hi) : split lo hi = [] := by
  unfold split
  rw [show (hi - lo).toNat = 0 by omega]
  rfl
theorem split_cons {lo hi : Int} (h : lo < hi) : split lo hi = (lo, (down lo hi 32 : Int)) :: split (lo + psz (down lo hi 32 : Int)) hi := by
  have hp := psz_pos (down lo hi 32 : Int)
  unfold split
  rw [show (hi - lo).toNat = ((hi - lo).toNat - 1) + 1 by omega]
  show (if lo < hi then _ else _) = _
  rw [if_pos h, splitF_more ((hi - lo).toNat - 1) (hi - (lo + psz (down lo hi 32 : Int))).toNat _ hi (by omega) (Nat.le_refl _)]
/-- the maximal runs of what is in, between ends -/
def runs (inn : Int → Bool) : List Int → Bool → Int → List (Int × Int)
  | a :: b :: l, op, fr =>
    if inn a then runs inn (b :: l) true (if op then fr else a)
    else (if op then [(fr, a)] else []) ++ runs inn (b :: l) false fr
  | _, op, fr => if op then [(fr, 4294967296)] else []
/-- ends that rise, the last of which is that of all addresses; between two of them all are in, or none -/
def EndsOk (inn : Int → Bool) : List Int → Prop
  | [] => False
  | [a] => a = 4294967296
  | a :: b :: l => a < b ∧ (∀ x, a ≤ x → x < b → inn x = inn a) ∧ EndsOk inn (b :: l)
theorem EndsOk.top {inn : Int → Bool} : ∀ {l : List Int}, EndsOk inn l → ∀ a ∈ l, a ≤ 4294967296
  | [], h, _, ha => by cases ha
  | [b], h, a, ha => by simp at ha; subst ha; exact Int.le_of_eq h
  | b :: c :: l, h, a, ha => by
    have ih := EndsOk.top h.2.2
    rcases List.mem_cons.1 ha with rfl | ha
    · have := ih c (by simp); have := h.1; omega
    · exact ih a ha
theorem runs_spec (inn : Int → Bool) : ∀ (l : List Int) (a : Int) (op : Bool) (fr lo : Int), EndsOk inn (a :: l) → (op = true → lo < fr ∧ fr < a) → (op = false → lo < a) →
    SpOk lo (runs inn (a :: l) op fr) ∧ ∀ x, inS (runs inn (a :: l) op fr) x ↔ (op = true ∧ fr ≤ x ∧ x < a) ∨ (a ≤ x ∧ x < 4294967296 ∧ inn x = true)
  | [], a, op, fr, lo, h, ho, hc => by
    have ha : a = 4294967296 := h
    subst ha
    cases op with
    | true =>
      obtain ⟨h1, h2⟩ := ho rfl
      refine ⟨⟨h1, h2, trivial⟩, fun x => ?_⟩
      show inS [(fr, 4294967296)] x ↔ _
      rw [inS_cons]
      constructor
      · rintro (h3 | h3)
        · exact Or.inl ⟨rfl, h3⟩
        · exact absurd h3 inS_nil
      · rintro (h3 | h3)
        · exact Or.inl h3.2
        · omega
    | false =>
      refine ⟨trivial, fun x => ?_⟩
      show inS [] x ↔ _
      constructor
      · intro h3; exact absurd h3 inS_nil
      · rintro (h3 | h3)
        · cases h3.1
        · omega
  | b :: l, a, op, fr, lo, h, ho, hc => by
    obtain ⟨hab, hcon, hrest⟩ := h
    have hb2 := hrest.top b (by simp)
    unfold runs
    cases hi : inn a with
    | true =>
      rw [if_pos rfl]
      obtain ⟨f2, hf2⟩ : ∃ f, (if op = true then fr else a) = f := ⟨_, rfl⟩
      rw [hf2]
      have hf : lo < f2 ∧ f2 < b := by
        rw [← hf2]
        cases op with
        | true => have := ho rfl; simp; omega
        | false => have := hc rfl; simp; omega
      obtain ⟨h1, h2⟩ := runs_spec inn l b true f2 lo hrest (fun _ => hf) (fun e => by cases e)
      refine ⟨h1, fun x => ?_⟩
      rw [h2 x]
      have hx : ∀ x, a ≤ x → x < b → inn x = true := fun x h3 h4 => by rw [hcon x h3 h4, hi]
      cases op with
      | true =>
        have e : fr = f2 := by simpa using hf2
        subst e
        have := ho rfl
        constructor
        · rintro (h3 | h3)
          · by_cases h4 : x < a
            · exact Or.inl ⟨rfl, h3.2.1, h4⟩
            · exact Or.inr ⟨by omega, by omega, hx x (by omega) h3.2.2⟩
          · exact Or.inr ⟨by omega, h3.2⟩
        · rintro (h3 | h3)
          · exact Or.inl ⟨rfl, h3.2.1, by omega⟩
          · by_cases h4 : x < b
            · exact Or.inl ⟨rfl, by omega, h4⟩
            · exact Or.inr ⟨by omega, h3.2⟩
      | false =>
        have e : a = f2 := by simpa using hf2
        subst e
        constructor
        · rintro (h3 | h3)
          · exact Or.inr ⟨h3.2.1, by omega, hx x h3.2.1 h3.2.2⟩
          · exact Or.inr ⟨by omega, h3.2⟩
        · rintro (h3 | h3)
          · cases h3.1
          · by_cases h4 : x < b
            · exact Or.inl ⟨rfl, h3.1, h4⟩
            · exact Or.inr ⟨by omega, h3.2⟩
    | false =>
      rw [if_neg (by simp)]
      cases op with
      | true =>
        obtain ⟨h5, h6⟩ := ho rfl
        obtain ⟨h1, h2⟩ := runs_spec inn l b false fr a hrest (fun e => by cases e) (fun _ => hab)
        refine ⟨⟨h5, h6, h1⟩, fun x => ?_⟩
        show inS ((fr, a) :: runs inn (b :: l) false fr) x ↔ _
        rw [inS_cons, h2 x]
        constructor
        · rintro (h3 | h3 | h3)
          · exact Or.inl ⟨rfl, h3⟩
          · cases h3.1
          · exact Or.inr ⟨by omega, h3.2⟩
        · rintro (h3 | h3)
          · exact Or.inl h3.2
          · by_cases h4 : x < b
            · rw [hcon x h3.1 h4, hi] at h3; cases h3.2.2
            · exact Or.inr (Or.inr ⟨by omega, h3.2⟩)
      | false =>
        have h5 := hc rfl
        obtain ⟨h1, h2⟩ := runs_spec inn l b false fr lo hrest (fun e => by cases e) (fun _ => by omega)
        refine ⟨h1, fun x => ?_⟩
        show inS (runs inn (b :: l) false fr) x ↔ _
        rw [h2 x]
        constructor
        · rintro (h3 | h3)
          · cases h3.1
          · exact Or.inr ⟨by omega, h3.2⟩
        · rintro (h3 | h3)
          · cases h3.1
          · by_cases h4 : x < b
            · rw [hcon x h3.1 h4, hi] at h3; cases h3.2.2
            · exact Or.inr ⟨by omega, h3.2⟩
end Go.Proofs.YtagfdmkgnedlbabDoor.Pc
