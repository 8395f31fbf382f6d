/- The widest prefix, the ends, and that both ways give the same list: plain. -/
import Derived.Test.YtagfdmkgnedlbabDoorPcA
import Derived.Lib.ItoaNum
namespace Go.Proofs.YtagfdmkgnedlbabDoor.Pc
open Go.Proofs.YtagfdmkgnedlbabDoor.PM
set_option linter.unusedVariables false

theorem psz_free (free : Nat) (h : free ≤ 32) : psz ((32 - free : Nat) : Int) = ((2 ^ free : Nat) : Int) := by
  rw [psz_nat]
  have : 32 - (((32 - free : Nat) : Int)).toNat = free := by omega
  rw [this]
theorem widest_down (lo hi : Nat) (h : lo < hi) (hhi : hi ≤ 4294967296) : down (lo : Int) (hi : Int) 32 = 32 - min (Lib.ctz 64 (lo ||| 4294967296)) (Lib.bitLen (hi - lo) - 1) := by
  have hX : lo ||| 4294967296 = lo + 4294967296 := by
    have h1 := Nat.two_pow_add_eq_or_of_lt (i := 32) (b := lo) (by omega) 1
    rw [Nat.or_comm]
    have h2 : (4294967296 : Nat) ||| lo = 2 ^ 32 * 1 ||| lo := rfl
    rw [h2, ← h1]
    omega
  obtain ⟨c, hc⟩ : ∃ c, Lib.ctz 64 (lo ||| 4294967296) = c := ⟨_, rfl⟩
  obtain ⟨L, hL⟩ : ∃ L, Lib.bitLen (hi - lo) = L := ⟨_, rfl⟩
  obtain ⟨m, hm, -⟩ := Lib.ctzFrom_spec 64 (lo + 4294967296) (by omega) (by omega)
  have hcc : Lib.ctzFrom 64 (lo + 4294967296) = c := by
    rw [← hc, hX]
    unfold Lib.ctz
    rw [if_neg (by omega)]
  rw [hcc] at hm
  obtain ⟨l1, l2, l3⟩ := Lib.bitLenAux_bounds 64 (hi - lo) (by omega) (by omega)
  have hLL : Lib.bitLenAux 64 (hi - lo) = L := hL
  rw [hLL] at l1 l2 l3
  have hc32 : c ≤ 32 := by
    by_cases h1 : c ≤ 32
    · exact h1
    · have h2 : 2 ^ 33 ≤ 2 ^ c := Nat.pow_le_pow_right (by decide) (by omega)
      have h3 : 2 ^ c ≤ lo + 4294967296 := by rw [hm]; exact Nat.le_mul_of_pos_right _ (by omega)
      omega
  have hL33 : L - 1 ≤ 32 := by
    by_cases h1 : L - 1 ≤ 32
    · exact h1
    · have h2 : 2 ^ 33 ≤ 2 ^ (L - 1) := Nat.pow_le_pow_right (by decide) (by omega)
      omega
  rw [hc, hL]
  obtain ⟨free, hf⟩ : ∃ f, min c (L - 1) = f := ⟨_, rfl⟩
  rw [hf]
  have hf1 : free ≤ c := by omega
  have hf2 : free ≤ L - 1 := by omega
  have hdvd : ∀ k, k ≤ 32 → (lo % 2 ^ k = 0 ↔ (lo + 4294967296) % 2 ^ k = 0) := fun k hk => by
    have e : (4294967296 : Nat) = 2 ^ (32 - k) * 2 ^ k := by rw [← Nat.pow_add, show 32 - k + k = 32 by omega]
    rw [e, Nat.add_mul_mod_self_right]
  refine down_uniq (by omega) (by omega) ?_ ?_
  · unfold Fit
    rw [psz_free free (by omega)]
    have h1 : lo % 2 ^ free = 0 := by
      rw [hdvd free (by omega), hm, show c = free + (c - free) by omega, Nat.pow_add, Nat.mul_assoc]
      exact Nat.mul_mod_right _ _
    have h2 : 2 ^ free ≤ 2 ^ (L - 1) := Nat.pow_le_pow_right (by decide) hf2
    refine ⟨by exact_mod_cast h1, by omega⟩
  · by_cases h0 : 32 - free = 0
    · exact Or.inl h0
    · refine Or.inr (fun hfit => ?_)
      unfold Fit at hfit
      rw [show 32 - free - 1 = 32 - (free + 1) by omega, psz_free (free + 1) (by omega)] at hfit
      obtain ⟨h1, h2⟩ := hfit
      have h1' : lo % 2 ^ (free + 1) = 0 := by exact_mod_cast h1
      rcases (show free = c ∨ free = L - 1 by omega) with e | e
      · rw [hdvd (free + 1) (by omega), hm, e, Nat.pow_succ] at h1'
        have h4 : 2 ^ c * (2 * m + 1) = 2 ^ c * 2 * m + 2 ^ c := by rw [Nat.mul_add, Nat.mul_one, Nat.mul_assoc]
        rw [h4, Nat.mul_add_mod, Nat.mod_eq_of_lt (by have := Nat.two_pow_pos c; omega)] at h1'
        have := Nat.two_pow_pos c
        omega
      · have h3 : 2 ^ (free + 1) = 2 ^ L := by rw [e, show L - 1 + 1 = L by omega]
        rw [h3] at h2
        omega
def insE : List Int → Int → List Int
  | [], x => [x]
  | a :: l, x => if a = x then a :: l else if x < a then x :: a :: l else a :: insE l x
theorem mem_insE {x y : Int} : ∀ {l : List Int}, y ∈ insE l x ↔ y = x ∨ y ∈ l
  | [] => by simp [insE]
  | a :: l => by
    unfold insE
    split
    · rename_i h
      subst h
      constructor
      · intro h; exact Or.inr h
      · rintro (rfl | h)
        · simp
        · exact h
    · split
      · simp
      · rw [List.mem_cons, mem_insE, List.mem_cons]
        constructor
        · rintro (h | h | h)
          · exact Or.inr (Or.inl h)
          · exact Or.inl h
          · exact Or.inr (Or.inr h)
        · rintro (h | h | h)
          · exact Or.inr (Or.inl h)
          · exact Or.inl h
          · exact Or.inr (Or.inr h)
theorem rise_insE {x : Int} : ∀ {l : List Int}, l.Pairwise (· < ·) → (insE l x).Pairwise (· < ·)
  | [], _ => by simp [insE]
  | a :: l, h => by
    obtain ⟨h1, h2⟩ := List.pairwise_cons.1 h
    unfold insE
    split
    · exact h
    · split
      · rename_i hlt
        refine List.pairwise_cons.2 ⟨fun b hb => ?_, h⟩
        rcases List.mem_cons.1 hb with rfl | hb
        · exact hlt
        · have := h1 b hb; omega
      · rename_i hne hnl
        refine List.pairwise_cons.2 ⟨fun b hb => ?_, rise_insE h2⟩
        rcases mem_insE.1 hb with rfl | hb
        · omega
        · exact h1 b hb
/-- the ends of the valid ones -/
def endsF (E : List Int) (p : Int × Int) : List Int := if vld p.1 p.2 = true then insE (insE E p.1) (p.1 + psz p.2) else E
def ends (ps : List (Int × Int)) : List Int := ps.foldl endsF [0, 4294967296]
def InA (p : Int × Int) : Prop := 0 ≤ p.1 ∧ p.1 < 4294967296
structure EOk (E : List Int) (ps : List (Int × Int)) : Prop where
  rise : E.Pairwise (· < ·)
  zero : (0 : Int) ∈ E
  top : (4294967296 : Int) ∈ E
  bd : ∀ a ∈ E, 0 ≤ a ∧ a ≤ 4294967296
  mem : ∀ p ∈ ps, vld p.1 p.2 = true → p.1 ∈ E ∧ p.1 + psz p.2 ∈ E
theorem eok_step {E : List Int} {ps : List (Int × Int)} {p : Int × Int} (h : EOk E ps) (hp : InA p) : EOk (endsF E p) (ps ++ [p]) := by
  unfold endsF
  split
  · rename_i hv
    have hend := vld_end p.1 p.2 hv hp.2
    have hpos := psz_pos p.2
    refine ⟨rise_insE (rise_insE h.rise), mem_insE.2 (Or.inr (mem_insE.2 (Or.inr h.zero))), mem_insE.2 (Or.inr (mem_insE.2 (Or.inr h.top))), fun a ha => ?_, fun q hq hqv => ?_⟩
    · rcases mem_insE.1 ha with rfl | ha
      · have := hp.1; omega
      · rcases mem_insE.1 ha with rfl | ha
        · have := hp.1; have := hp.2; omega
        · exact h.bd a ha
    · rcases List.mem_append.1 hq with h1 | h1
      · obtain ⟨h2, h3⟩ := h.mem q h1 hqv
        exact ⟨mem_insE.2 (Or.inr (mem_insE.2 (Or.inr h2))), mem_insE.2 (Or.inr (mem_insE.2 (Or.inr h3)))⟩
      · rw [List.mem_singleton] at h1
        subst h1
        exact ⟨mem_insE.2 (Or.inr (mem_insE.2 (Or.inl rfl))), mem_insE.2 (Or.inl rfl)⟩
  · rename_i hv
    refine ⟨h.rise, h.zero, h.top, h.bd, fun q hq hqv => ?_⟩
    rcases List.mem_append.1 hq with h1 | h1
    · exact h.mem q h1 hqv
    · rw [List.mem_singleton] at h1
      subst h1
      exact absurd hqv hv
theorem ends_eok (ps : List (Int × Int)) (hp : ∀ p ∈ ps, InA p) : EOk (ends ps) ps := by
  have key : ∀ (qs ps0 : List (Int × Int)) (E : List Int), EOk E ps0 → (∀ p ∈ qs, InA p) → EOk (qs.foldl endsF E) (ps0 ++ qs) := by
    intro qs
    induction qs with
    | nil => intro ps0 E h _; rw [List.append_nil]; exact h
    | cons q qs ih =>
      intro ps0 E h hq
      have h1 := ih (ps0 ++ [q]) (endsF E q) (eok_step h (hq q (by simp))) (fun p hp => hq p (List.mem_cons_of_mem _ hp))
      rw [List.append_assoc] at h1
      exact h1
  exact key ps [] [0, 4294967296] ⟨by simp, by simp, by simp, fun a ha => by simp at ha; rcases ha with rfl | rfl <;> omega, fun p hp => by cases hp⟩ hp
def anyH (ps : List (Int × Int)) (x : Int) : Bool := ps.any fun p => has p.1 p.2 x
theorem anyH_iff {ps : List (Int × Int)} {x : Int} : anyH ps x = true ↔ ∃ p ∈ ps, has p.1 p.2 x = true := by simp [anyH]
/-- no end lies between: all are in, or none -/
theorem anyH_const {E : List Int} {ps qs : List (Int × Int)} (h : EOk E ps) (hs : ∀ p ∈ qs, p ∈ ps) {a b x : Int} (hab : ∀ c ∈ E, c ≤ a ∨ b ≤ c) (hx : a ≤ x) (hxb : x < b) : anyH qs x = anyH qs a := by
  unfold anyH
  rw [Bool.eq_iff_iff]
  simp only [List.any_eq_true]
  have key : ∀ p ∈ qs, (has p.1 p.2 x = true ↔ has p.1 p.2 a = true) := fun p hp => by
    rw [has_iff, has_iff]
    constructor
    · rintro ⟨hv, h1, h2⟩
      obtain ⟨m1, m2⟩ := h.mem p (hs p hp) ((vld_iff _ _).2 hv)
      have c1 := hab _ m1
      have c2 := hab _ m2
      exact ⟨hv, by omega, by omega⟩
    · rintro ⟨hv, h1, h2⟩
      obtain ⟨m1, m2⟩ := h.mem p (hs p hp) ((vld_iff _ _).2 hv)
      have c1 := hab _ m1
      have c2 := hab _ m2
      exact ⟨hv, by omega, by omega⟩
  constructor
  · rintro ⟨p, hp, h1⟩; exact ⟨p, hp, (key p hp).1 h1⟩
  · rintro ⟨p, hp, h1⟩; exact ⟨p, hp, (key p hp).2 h1⟩
theorem eok_ends {E : List Int} {ps : List (Int × Int)} (h : EOk E ps) (inn : Int → Bool) (hcon : ∀ a b x, (∀ c ∈ E, c ≤ a ∨ b ≤ c) → a ≤ x → x < b → inn x = inn a) : EndsOk inn E ∧ ∃ l, E = 0 :: l := by
  have key : ∀ (l pre : List Int), E = pre ++ l → l ≠ [] → EndsOk inn l := by
    intro l
    induction l with
    | nil => intro pre _ hl; exact absurd rfl hl
    | cons a l ih =>
      intro pre he _
      have hr := h.rise
      rw [he] at hr
      obtain ⟨r1, r2, r3⟩ := List.pairwise_append.1 hr
      obtain ⟨r4, r5⟩ := List.pairwise_cons.1 r2
      cases l with
      | nil =>
        show a = 4294967296
        have ht := h.top
        rw [he] at ht
        rcases List.mem_append.1 ht with h1 | h1
        · have h2 := r3 _ h1 a (by simp)
          have h3 := (h.bd a (by rw [he]; simp)).2
          omega
        · simp at h1; exact h1.symm
      | cons b l =>
        have hab := r4 b (by simp)
        refine ⟨hab, fun x h1 h2 => hcon a b x (fun c hc => ?_) h1 h2, ih (pre ++ [a]) (by rw [he]; simp) (by simp)⟩
        rw [he] at hc
        rcases List.mem_append.1 hc with h3 | h3
        · have := r3 c h3 a (by simp); exact Or.inl (by omega)
        · rcases List.mem_cons.1 h3 with rfl | h3
          · exact Or.inl (Int.le_refl _)
          · rcases List.mem_cons.1 h3 with rfl | h3
            · exact Or.inr (Int.le_refl _)
            · have := (List.pairwise_cons.1 r5).1 c h3; exact Or.inr (by omega)
  have hne : E ≠ [] := fun e => by have := h.zero; rw [e] at this; cases this
  refine ⟨key E [] rfl hne, ?_⟩
  cases hE : E with
  | nil => exact absurd hE hne
  | cons a l =>
    have hz := h.zero
    have hr := h.rise
    have ha := (h.bd a (by rw [hE]; simp)).1
    rw [hE] at hz hr
    rcases List.mem_cons.1 hz with e | e
    · exact ⟨l, by rw [← e]⟩
    · have := (List.pairwise_cons.1 hr).1 0 e
      omega
/-- the spans of prefixes that stand in order -/
def spans (ps : List (Int × Int)) : List (Int × Int) := ps.foldl (fun l p => stepS l (p.1, p.1 + psz p.2)) []
theorem spans_spec (ps : List (Int × Int)) (hv : ∀ p ∈ ps, 0 ≤ p.1) (hs : ps.Pairwise (fun p q => p.1 ≤ q.1)) : SpOk (-1) (spans ps) ∧ ∀ x, inS (spans ps) x ↔ ∃ p ∈ ps, p.1 ≤ x ∧ x < p.1 + psz p.2 := by
  have key : ∀ (qs : List (Int × Int)) (l : List (Int × Int)), SpOk (-1) l → (∀ p ∈ qs, 0 ≤ p.1) → qs.Pairwise (fun p q => p.1 ≤ q.1) → (∀ s ∈ l, ∀ p ∈ qs, s.1 ≤ p.1) →
      SpOk (-1) (qs.foldl (fun l p => stepS l (p.1, p.1 + psz p.2)) l) ∧ ∀ x, inS (qs.foldl (fun l p => stepS l (p.1, p.1 + psz p.2)) l) x ↔ inS l x ∨ ∃ p ∈ qs, p.1 ≤ x ∧ x < p.1 + psz p.2 := by
    intro qs
    induction qs with
    | nil => intro l h _ _ _; exact ⟨h, fun x => by simp⟩
    | cons q qs ih =>
      intro l h hv hs hl
      have hpos := psz_pos q.2
      have hq := hv q (by simp)
      obtain ⟨s1, s2⟩ := List.pairwise_cons.1 hs
      obtain ⟨a1, a2, a3⟩ := step_spec l (q.1, q.1 + psz q.2) (-1) h (by show -1 < q.1; omega) (by show q.1 < q.1 + psz q.2; omega) (fun s hs => hl s hs q (by simp))
      obtain ⟨b1, b2⟩ := ih _ a1 (fun p hp => hv p (List.mem_cons_of_mem _ hp)) s2 (fun s hs p hp => by
        have h1 := a3 s hs
        have h2 := s1 p hp
        have h3 : s.1 ≤ q.1 := h1
        omega)
      refine ⟨b1, fun x => ?_⟩
      show inS (qs.foldl (fun l p => stepS l (p.1, p.1 + psz p.2)) (stepS l (q.1, q.1 + psz q.2))) x ↔ _
      rw [b2 x, a2 x]
      constructor
      · rintro ((h1 | h1) | ⟨p, hp, h1⟩)
        · exact Or.inl h1
        · exact Or.inr ⟨q, by simp, h1⟩
        · exact Or.inr ⟨p, List.mem_cons_of_mem _ hp, h1⟩
      · rintro (h1 | ⟨p, hp, h1⟩)
        · exact Or.inl (Or.inl h1)
        · rcases List.mem_cons.1 hp with rfl | hp
          · exact Or.inl (Or.inr h1)
          · exact Or.inr ⟨p, hp, h1⟩
  obtain ⟨h1, h2⟩ := key ps [] trivial hv hs (fun s hs => by cases hs)
  refine ⟨h1, fun x => ?_⟩
  have h3 : inS (spans ps) x ↔ inS [] x ∨ ∃ p ∈ ps, p.1 ≤ x ∧ x < p.1 + psz p.2 := h2 x
  rw [h3]
  constructor
  · rintro (h | h)
    · exact absurd h inS_nil
    · exact h
  · intro h; exact Or.inr h
/-- the list of prefixes of a list of spans -/
def cut (l : List (Int × Int)) : List (Int × Int) := l.flatMap fun s => split s.1 s.2
/-- what the document asks for -/
def setP (inn : Int → Bool) (E : List Int) : List (Int × Int) := cut (runs inn E false 0)
/-- spans of the same addresses give the same -/
theorem set_eq {inn : Int → Bool} {E : List Int} (hE : EndsOk inn E ∧ ∃ l, E = 0 :: l) {l : List (Int × Int)} {lo : Int} (hl : SpOk lo l) (hin : ∀ x, inS l x ↔ 0 ≤ x ∧ x < 4294967296 ∧ inn x = true) : cut l = setP inn E := by
  obtain ⟨h1, r, rfl⟩ := hE
  obtain ⟨h2, h3⟩ := runs_spec inn r 0 false 0 (-1) h1 (fun e => by cases e) (fun _ => by omega)
  unfold setP
  rw [sp_uniq l _ lo (-1) hl h2 (fun x => by rw [hin x, h3 x]; simp)]
/-- Cover: what is in order, against the document's -/
theorem cover_eq (ps S : List (Int × Int)) (hp : ∀ p ∈ ps, InA p) (hm : ∀ p, p ∈ S ↔ p ∈ ps ∧ vld p.1 p.2 = true) (hs : S.Pairwise (fun p q => p.1 ≤ q.1)) : cut (spans S) = setP (anyH ps) (ends ps) := by
  have hE := ends_eok ps hp
  obtain ⟨h1, h2⟩ := spans_spec S (fun p hp2 => (hp p ((hm p).1 hp2).1).1) hs
  refine set_eq (eok_ends hE (anyH ps) (fun a b x hab hx hxb => anyH_const hE (fun p hp => hp) hab hx hxb)) h1 (fun x => ?_)
  rw [h2 x, anyH_iff]
  constructor
  · rintro ⟨p, hp2, h3, h4⟩
    obtain ⟨h5, h6⟩ := (hm p).1 hp2
    have h7 := vld_end p.1 p.2 h6 (hp p h5).2
    have h8 := (hp p h5).1
    exact ⟨by omega, by omega, p, h5, (has_iff _ _ _).2 ⟨(vld_iff _ _).1 h6, h3, h4⟩⟩
  · rintro ⟨h3, h4, p, h5, h6⟩
    obtain ⟨h7, h8, h9⟩ := (has_iff _ _ _).1 h6
    exact ⟨p, (hm p).2 ⟨h5, (vld_iff _ _).2 h7⟩, h8, h9⟩
end Go.Proofs.YtagfdmkgnedlbabDoor.Pc
