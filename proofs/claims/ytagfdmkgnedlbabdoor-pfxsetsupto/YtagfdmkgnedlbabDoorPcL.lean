/- The gaps between spans, and what two lists of spans share: plain. -/
import Derived.Test.YtagfdmkgnedlbabDoorPcE
namespace Go.Proofs.YtagfdmkgnedlbabDoor.Pc
open Go.Proofs.YtagfdmkgnedlbabDoor.PM
set_option linter.unusedVariables false

theorem SpOk.mono : ∀ {l : List (Int × Int)} {lo lo' : Int}, SpOk lo l → lo' ≤ lo → SpOk lo' l
  | [], _, _, _, _ => trivial
  | s :: l, lo, lo', h, hl => ⟨by have := h.1; omega, h.2.1, h.2.2⟩
theorem SpOk.gt {l : List (Int × Int)} {lo : Int} (h : SpOk lo l) : ∀ s ∈ l, lo < s.1 := fun s hs => by
  induction l generalizing lo with
  | nil => cases hs
  | cons t l ih =>
    rcases List.mem_cons.1 hs with rfl | hs
    · exact h.1
    · have h1 := ih h.2.2 hs
      have h2 := h.1
      have h3 := h.2.1
      omega
theorem sp_len : ∀ (l : List (Int × Int)) (lo B : Int), SpOk lo l → (∀ s ∈ l, s.2 ≤ B) → lo ≤ B → (l.length : Int) ≤ B - lo
  | [], lo, B, _, _, h => by simp; omega
  | s :: l, lo, B, h, hB, _ => by
    have h1 := hB s (by simp)
    have h2 := h.1
    have h3 := h.2.1
    have h4 := sp_len l s.2 B h.2.2 (fun t ht => hB t (List.mem_cons_of_mem _ ht)) h1
    rw [List.length_cons]
    omega
/-- no span ends beyond what is in -/
theorem sp_top {l : List (Int × Int)} {lo B : Int} (h : SpOk lo l) (hin : ∀ x, inS l x → x < B) : ∀ s ∈ l, s.2 ≤ B := fun s hs => by
  have h1 : s.1 < s.2 := by
    clear hin
    induction l generalizing lo with
    | nil => cases hs
    | cons t l ih =>
      rcases List.mem_cons.1 hs with rfl | hs
      · exact h.2.1
      · exact ih h.2.2 hs
  have := hin (s.2 - 1) ⟨s, hs, by omega, by omega⟩
  omega
def gapsF : Int → List (Int × Int) → List (Int × Int)
  | at_, [] => if at_ < 4294967296 then [(at_, 4294967296)] else []
  | at_, s :: l => (if at_ < s.1 then [(at_, s.1)] else []) ++ gapsF s.2 l
theorem gaps_spec : ∀ (l : List (Int × Int)) (at_ : Int), SpOk (at_ - 1) l → at_ ≤ 4294967296 → (∀ s ∈ l, s.2 ≤ 4294967296) → SpOk (at_ - 1) (gapsF at_ l) ∧ ∀ x, inS (gapsF at_ l) x ↔ at_ ≤ x ∧ x < 4294967296 ∧ ¬ inS l x
  | [], at_, _, ha, _ => by
    unfold gapsF
    by_cases h : at_ < 4294967296
    · rw [if_pos h]
      refine ⟨⟨by show at_ - 1 < at_; omega, h, trivial⟩, fun x => ?_⟩
      rw [inS_cons]
      constructor
      · rintro (h1 | h1)
        · exact ⟨h1.1, h1.2, inS_nil⟩
        · exact absurd h1 inS_nil
      · rintro ⟨h1, h2, -⟩; exact Or.inl ⟨h1, h2⟩
    · rw [if_neg h]
      refine ⟨trivial, fun x => ⟨fun h1 => absurd h1 inS_nil, fun ⟨h1, h2, _⟩ => by omega⟩⟩
  | s :: l, at_, hs, ha, hB => by
    have h1 := hs.1
    have h2 := hs.2.1
    have h3 := hB s (by simp)
    obtain ⟨r1, r2⟩ := gaps_spec l s.2 (hs.2.2.mono (by omega)) h3 (fun t ht => hB t (List.mem_cons_of_mem _ ht))
    have hlow : ∀ x, inS l x → s.2 < x := fun x hx => hs.2.2.low hx
    unfold gapsF
    by_cases h : at_ < s.1
    · rw [if_pos h]
      refine ⟨⟨by show at_ - 1 < at_; omega, h, r1.mono (by show s.1 ≤ s.2 - 1; omega)⟩, fun x => ?_⟩
      rw [List.singleton_append, inS_cons, r2 x, inS_cons]
      constructor
      · rintro (⟨h4, h5⟩ | ⟨h4, h5, h6⟩)
        · have h5' : x < s.1 := h5
          have h4' : at_ ≤ x := h4
          refine ⟨h4', by omega, ?_⟩
          rintro (h7 | h7)
          · omega
          · have := hlow x h7; omega
        · refine ⟨by omega, h5, ?_⟩
          rintro (h7 | h7)
          · omega
          · exact h6 h7
      · rintro ⟨h4, h5, h6⟩
        by_cases h7 : x < s.1
        · exact Or.inl ⟨h4, h7⟩
        · refine Or.inr ⟨?_, h5, fun h8 => h6 (Or.inr h8)⟩
          by_cases h8 : s.2 ≤ x
          · exact h8
          · exact absurd (Or.inl ⟨by omega, by omega⟩) h6
    · rw [if_neg h, List.nil_append]
      refine ⟨r1.mono (by omega), fun x => ?_⟩
      rw [r2 x, inS_cons]
      constructor
      · rintro ⟨h4, h5, h6⟩
        refine ⟨by omega, h5, ?_⟩
        rintro (h7 | h7)
        · omega
        · exact h6 h7
      · rintro ⟨h4, h5, h6⟩
        refine ⟨?_, h5, fun h8 => h6 (Or.inr h8)⟩
        by_cases h8 : s.2 ≤ x
        · exact h8
        · exact absurd (Or.inl ⟨by omega, by omega⟩) h6
def ov : List (Int × Int) → List (Int × Int) → List (Int × Int)
  | [], _ => []
  | _ :: _, [] => []
  | a :: l, b :: m => (if max a.1 b.1 < min a.2 b.2 then [(max a.1 b.1, min a.2 b.2)] else []) ++ (if a.2 < b.2 then ov l (b :: m) else ov (a :: l) m)
  termination_by l m => l.length + m.length
theorem ov_nil (m : List (Int × Int)) : ov [] m = [] := by rw [ov]
theorem ov_nil' (l : List (Int × Int)) : ov l [] = [] := by
  cases l with
  | nil => rw [ov]
  | cons a l => rw [ov]
theorem ov_cons (a b : Int × Int) (l m : List (Int × Int)) : ov (a :: l) (b :: m) = (if max a.1 b.1 < min a.2 b.2 then [(max a.1 b.1, min a.2 b.2)] else []) ++ (if a.2 < b.2 then ov l (b :: m) else ov (a :: l) m) := by rw [ov]
theorem ov_spec : ∀ (n : Nat) (l m : List (Int × Int)) (lo lo' : Int), l.length + m.length ≤ n → SpOk lo l → SpOk lo' m → SpOk (max lo lo') (ov l m) ∧ ∀ x, inS (ov l m) x ↔ inS l x ∧ inS m x := by
  intro n
  induction n with
  | zero =>
    intro l m lo lo' hn _ _
    obtain rfl : l = [] := List.length_eq_zero_iff.1 (by omega)
    rw [ov_nil]
    exact ⟨trivial, fun x => ⟨fun h => absurd h inS_nil, fun h => absurd h.1 inS_nil⟩⟩
  | succ n ih =>
    intro l m lo lo' hn hl hm
    cases l with
    | nil =>
      rw [ov_nil]
      exact ⟨trivial, fun x => ⟨fun h => absurd h inS_nil, fun h => absurd h.1 inS_nil⟩⟩
    | cons a l =>
      cases m with
      | nil =>
        rw [ov_nil']
        exact ⟨trivial, fun x => ⟨fun h => absurd h inS_nil, fun h => absurd h.2 inS_nil⟩⟩
      | cons b m =>
        have a1 := hl.1
        have a2 := hl.2.1
        have b1 := hm.1
        have b2 := hm.2.1
        have la : ∀ x, inS l x → a.2 < x := fun x hx => hl.2.2.low hx
        have lb : ∀ x, inS m x → b.2 < x := fun x hx => hm.2.2.low hx
        simp only [List.length_cons] at hn
        rw [ov_cons]
        obtain ⟨R, hR⟩ : ∃ R, (if a.2 < b.2 then ov l (b :: m) else ov (a :: l) m) = R := ⟨_, rfl⟩
        have key : SpOk (min a.2 b.2) R ∧ ∀ x, ((max a.1 b.1 ≤ x ∧ x < min a.2 b.2) ∨ inS R x) ↔ inS (a :: l) x ∧ inS (b :: m) x := by
          by_cases h : a.2 < b.2
          · rw [if_pos h] at hR
            subst hR
            obtain ⟨r1, r2⟩ := ih l (b :: m) a.2 lo' (by simp only [List.length_cons]; omega) hl.2.2 hm
            refine ⟨r1.mono (by omega), fun x => ?_⟩
            rw [r2 x, inS_cons, inS_cons]
            constructor
            · rintro (h1 | ⟨h1, h2⟩)
              · exact ⟨Or.inl ⟨by omega, by omega⟩, Or.inl ⟨by omega, by omega⟩⟩
              · exact ⟨Or.inr h1, h2⟩
            · rintro ⟨h1 | h1, h2⟩
              · rcases h2 with h2 | h2
                · exact Or.inl ⟨by omega, by omega⟩
                · have := lb x h2; omega
              · exact Or.inr ⟨h1, h2⟩
          · rw [if_neg h] at hR
            subst hR
            obtain ⟨r1, r2⟩ := ih (a :: l) m lo b.2 (by simp only [List.length_cons]; omega) hl hm.2.2
            refine ⟨r1.mono (by omega), fun x => ?_⟩
            rw [r2 x, inS_cons, inS_cons]
            constructor
            · rintro (h1 | ⟨h1, h2⟩)
              · exact ⟨Or.inl ⟨by omega, by omega⟩, Or.inl ⟨by omega, by omega⟩⟩
              · exact ⟨h1, Or.inr h2⟩
            · rintro ⟨h1, h2 | h2⟩
              · rcases h1 with h1 | h1
                · exact Or.inl ⟨by omega, by omega⟩
                · have := la x h1; omega
              · exact Or.inr ⟨h1, h2⟩
        rw [hR]
        have key2 : SpOk (max lo lo') R := by
          by_cases h : a.2 < b.2
          · rw [if_pos h] at hR
            subst hR
            exact (ih l (b :: m) a.2 lo' (by simp only [List.length_cons]; omega) hl.2.2 hm).1.mono (by omega)
          · rw [if_neg h] at hR
            subst hR
            exact (ih (a :: l) m lo b.2 (by simp only [List.length_cons]; omega) hl hm.2.2).1.mono (by omega)
        by_cases hc : max a.1 b.1 < min a.2 b.2
        · rw [if_pos hc]
          exact ⟨⟨by show max lo lo' < max a.1 b.1; omega, hc, key.1⟩, fun x => by rw [List.singleton_append, inS_cons]; exact key.2 x⟩
        · rw [if_neg hc, List.nil_append]
          refine ⟨key2, fun x => ?_⟩
          rw [← key.2 x]
          constructor
          · intro h; exact Or.inr h
          · rintro (h | h)
            · omega
            · exact h
theorem ov_len : ∀ (n : Nat) (l m : List (Int × Int)), l.length + m.length ≤ n → (ov l m).length ≤ l.length + m.length := by
  intro n
  induction n with
  | zero =>
    intro l m hn
    obtain rfl : l = [] := List.length_eq_zero_iff.1 (by omega)
    rw [ov_nil]; simp
  | succ n ih =>
    intro l m hn
    cases l with
    | nil => rw [ov_nil]; simp
    | cons a l =>
      cases m with
      | nil => rw [ov_nil']; simp
      | cons b m =>
        simp only [List.length_cons] at hn
        rw [ov_cons, List.length_append]
        have h1 : (if max a.1 b.1 < min a.2 b.2 then [(max a.1 b.1, min a.2 b.2)] else []).length ≤ 1 := by split <;> simp
        have h2 := ih l (b :: m) (by simp only [List.length_cons]; omega)
        have h3 := ih (a :: l) m (by simp only [List.length_cons]; omega)
        simp only [List.length_cons] at h2 h3 ⊢
        by_cases h : a.2 < b.2
        · rw [if_pos h]; omega
        · rw [if_neg h]; omega
/-- what the spans of the valid ones hold -/
theorem spans_in (ps S : List (Int × Int)) (hp : ∀ p ∈ ps, InA p) (hm : ∀ p, p ∈ S ↔ p ∈ ps ∧ vld p.1 p.2 = true) (hs : S.Pairwise (fun p q => p.1 ≤ q.1)) : SpOk (-1) (spans S) ∧ (∀ x, inS (spans S) x ↔ 0 ≤ x ∧ x < 4294967296 ∧ anyH ps x = true) ∧ ∀ s ∈ spans S, s.2 ≤ 4294967296 := by
  obtain ⟨h1, h2⟩ := spans_spec S (fun p hp2 => (hp p ((hm p).1 hp2).1).1) hs
  have key : ∀ x, inS (spans S) x ↔ 0 ≤ x ∧ x < 4294967296 ∧ anyH ps x = true := fun x => by
    rw [h2 x, anyH_iff]
    constructor
    · rintro ⟨p, hp2, h3, h4⟩
      obtain ⟨h5, h6⟩ := (hm p).1 hp2
      have h7 := vld_end p.1 p.2 h6 (hp p h5).2
      have h8 := (hp p h5).1
      exact ⟨by omega, by omega, p, h5, (has_iff _ _ _).2 ⟨(vld_iff _ _).1 h6, h3, h4⟩⟩
    · rintro ⟨h3, h4, p, h5, h6⟩
      obtain ⟨h7, h8, h9⟩ := (has_iff _ _ _).1 h6
      exact ⟨p, (hm p).2 ⟨h5, (vld_iff _ _).2 h7⟩, h8, h9⟩
  exact ⟨h1, key, sp_top h1 (fun x hx => ((key x).1 hx).2.1)⟩
/-- the addresses of both lists, and of the one without the other -/
def setK (k : Int) (ps qs : List (Int × Int)) : List (Int × Int) := setP (innW k ps qs) (ends (ps ++ qs))
theorem both_eq (ps qs S T : List (Int × Int)) (hp : ∀ p ∈ ps, InA p) (hq : ∀ p ∈ qs, InA p) (hS : ∀ p, p ∈ S ↔ p ∈ ps ∧ vld p.1 p.2 = true) (hs : S.Pairwise (fun p q => p.1 ≤ q.1)) (hT : ∀ p, p ∈ T ↔ p ∈ qs ∧ vld p.1 p.2 = true) (ht : T.Pairwise (fun p q => p.1 ≤ q.1)) :
    cut (ov (spans S) (spans T)) = setK 2 ps qs ∧ SpOk (-1) (ov (spans S) (spans T)) ∧ ∀ s ∈ ov (spans S) (spans T), s.2 ≤ 4294967296 := by
  have hpa : ∀ p ∈ ps ++ qs, InA p := fun p h => by
    rcases List.mem_append.1 h with h | h
    · exact hp p h
    · exact hq p h
  have hE := ends_eok (ps ++ qs) hpa
  obtain ⟨s1, s2, s3⟩ := spans_in ps S hp hS hs
  obtain ⟨t1, t2, t3⟩ := spans_in qs T hq hT ht
  obtain ⟨o1, o2⟩ := ov_spec _ (spans S) (spans T) (-1) (-1) (Nat.le_refl _) s1 t1
  have o1' : SpOk (-1) (ov (spans S) (spans T)) := o1.mono (by omega)
  refine ⟨set_eq (eok_ends hE (innW 2 ps qs) (innW_const hE 2)) o1' (fun x => ?_), o1', sp_top o1' (fun x hx => ((s2 x).1 ((o2 x).1 hx).1).2.1)⟩
  rw [o2 x, s2 x, t2 x]
  have e : innW 2 ps qs x = (anyH ps x && anyH qs x) := rfl
  rw [e, Bool.and_eq_true]
  constructor
  · rintro ⟨⟨h1, h2, h3⟩, ⟨-, -, h4⟩⟩; exact ⟨h1, h2, h3, h4⟩
  · rintro ⟨h1, h2, h3, h4⟩; exact ⟨⟨h1, h2, h3⟩, ⟨h1, h2, h4⟩⟩
theorem without_eq (ps qs S T : List (Int × Int)) (hp : ∀ p ∈ ps, InA p) (hq : ∀ p ∈ qs, InA p) (hS : ∀ p, p ∈ S ↔ p ∈ ps ∧ vld p.1 p.2 = true) (hs : S.Pairwise (fun p q => p.1 ≤ q.1)) (hT : ∀ p, p ∈ T ↔ p ∈ qs ∧ vld p.1 p.2 = true) (ht : T.Pairwise (fun p q => p.1 ≤ q.1)) :
    cut (ov (spans S) (gapsF 0 (spans T))) = setK 1 ps qs ∧ SpOk (-1) (ov (spans S) (gapsF 0 (spans T))) ∧ ∀ s ∈ ov (spans S) (gapsF 0 (spans T)), s.2 ≤ 4294967296 := by
  have hpa : ∀ p ∈ ps ++ qs, InA p := fun p h => by
    rcases List.mem_append.1 h with h | h
    · exact hp p h
    · exact hq p h
  have hE := ends_eok (ps ++ qs) hpa
  obtain ⟨s1, s2, s3⟩ := spans_in ps S hp hS hs
  obtain ⟨t1, t2, t3⟩ := spans_in qs T hq hT ht
  obtain ⟨g1, g2⟩ := gaps_spec (spans T) 0 t1 (by omega) t3
  obtain ⟨o1, o2⟩ := ov_spec _ (spans S) (gapsF 0 (spans T)) (-1) (0 - 1) (Nat.le_refl _) s1 g1
  have o1' : SpOk (-1) (ov (spans S) (gapsF 0 (spans T))) := o1.mono (by omega)
  refine ⟨set_eq (eok_ends hE (innW 1 ps qs) (innW_const hE 1)) o1' (fun x => ?_), o1', sp_top o1' (fun x hx => ((s2 x).1 ((o2 x).1 hx).1).2.1)⟩
  rw [o2 x, s2 x, g2 x, t2 x]
  have e : innW 1 ps qs x = (anyH ps x && !anyH qs x) := rfl
  rw [e, Bool.and_eq_true]
  constructor
  · rintro ⟨⟨h1, h2, h3⟩, ⟨-, -, h4⟩⟩
    refine ⟨h1, h2, h3, ?_⟩
    cases h5 : anyH qs x with
    | false => rfl
    | true => exact absurd ⟨h1, h2, h5⟩ h4
  · rintro ⟨h1, h2, h3, h4⟩
    refine ⟨⟨h1, h2, h3⟩, ⟨h1, h2, fun h5 => ?_⟩⟩
    rw [h5.2.2] at h4
    cases h4
theorem setK_len (k : Int) (ps qs : List (Int × Int)) (hp : ∀ p ∈ ps, InA p) (hq : ∀ p ∈ qs, InA p) : (setK k ps qs).length ≤ 4294967296 := by
  have hpa : ∀ p ∈ ps ++ qs, InA p := fun p h => by
    rcases List.mem_append.1 h with h | h
    · exact hp p h
    · exact hq p h
  have hE := ends_eok (ps ++ qs) hpa
  obtain ⟨h1, r, hr⟩ := eok_ends hE (innW k ps qs) (innW_const hE k)
  have key : ∀ (l : List (Int × Int)) (lo : Int), SpOk lo l → -1 ≤ lo → (∀ s ∈ l, s.2 ≤ 4294967296) → ((cut l).length : Int) ≤ 4294967296 - lo - 1 ∨ l = [] := by
    intro l
    induction l with
    | nil => intro lo _ _ _; exact Or.inr rfl
    | cons s l ih =>
      intro lo h hlo h32
      refine Or.inl ?_
      have e : cut (s :: l) = split s.1 s.2 ++ cut l := rfl
      have hs := split_len s.1 s.2 (Int.le_of_lt h.2.1)
      have h3 := h32 s (by simp)
      have h4 := h.1
      have h5 := h.2.1
      rw [e, List.length_append]
      rcases ih s.2 h.2.2 (by omega) (fun t ht => h32 t (List.mem_cons_of_mem _ ht)) with h6 | h6
      · omega
      · subst h6; simp [cut]; omega
  rw [hr] at h1
  obtain ⟨h2, h3⟩ := runs_spec (innW k ps qs) r 0 false 0 (-1) h1 (fun e => by cases e) (fun _ => by omega)
  unfold setK setP
  rw [hr]
  have h32 : ∀ s ∈ runs (innW k ps qs) (0 :: r) false 0, s.2 ≤ 4294967296 := sp_top h2 (fun x hx => by
    rcases (h3 x).1 hx with h6 | h6
    · cases h6.1
    · omega)
  rcases key _ _ h2 (by omega) h32 with h6 | h6
  · omega
  · rw [h6]; simp [cut]
end Go.Proofs.YtagfdmkgnedlbabDoor.Pc
