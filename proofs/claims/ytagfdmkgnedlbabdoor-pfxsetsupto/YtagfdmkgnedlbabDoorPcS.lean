/- What the prefixes of a list of spans hold, that they are lean, and that a set has one list: plain. -/
import Derived.Test.YtagfdmkgnedlbabDoorPcL
namespace Go.Proofs.YtagfdmkgnedlbabDoor.Pc
open Go.Proofs.YtagfdmkgnedlbabDoor.PM
set_option linter.unusedVariables false

/-- in order, apart, no two halves -/
def Ln (p q : Int × Int) : Prop := p.1 + psz p.2 ≤ q.1 ∧ ¬ (p.2 = q.2 ∧ 0 < p.2 ∧ q.1 = p.1 + psz p.2 ∧ p.1 % (2 * psz p.2) = 0)
theorem psz_up (d : Nat) (h0 : 0 < d) (h1 : d ≤ 32) : psz ((d - 1 : Nat) : Int) = 2 * psz (d : Int) := by
  rw [psz_nat, psz_nat]
  have e1 : 32 - (((d - 1 : Nat) : Int)).toNat = (32 - ((d : Nat) : Int).toNat) + 1 := by simp; omega
  rw [e1, Nat.pow_succ]
  simp
  omega
theorem split_all (hi : Int) : ∀ (f : Nat) (lo : Int), (hi - lo).toNat ≤ f → lo ≤ hi →
    (∀ p ∈ split lo hi, (0 ≤ p.2 ∧ p.2 ≤ 32 ∧ p.1 % psz p.2 = 0) ∧ lo ≤ p.1 ∧ p.1 + psz p.2 ≤ hi) ∧ (∀ x, (∃ p ∈ split lo hi, p.1 ≤ x ∧ x < p.1 + psz p.2) ↔ lo ≤ x ∧ x < hi) ∧ (split lo hi).Pairwise Ln := by
  intro f
  induction f with
  | zero =>
    intro lo h1 h2
    rw [split_nil (by omega)]
    refine ⟨fun p hp => by (cases hp), fun x => ⟨fun ⟨p, hp, _⟩ => by (cases hp), fun h => by omega⟩, List.Pairwise.nil⟩
  | succ f ih =>
    intro lo h1 h2
    by_cases hlt : lo < hi
    · obtain ⟨d, hd⟩ : ∃ d, down lo hi 32 = d := ⟨_, rfl⟩
      obtain ⟨hfit, hd32, hmax⟩ := down_spec 32 (Nat.le_refl _) (fit32 hlt)
      rw [hd] at hfit hd32 hmax
      have hp1 := psz_pos (d : Int)
      obtain ⟨hf1, hf2⟩ := hfit
      obtain ⟨r1, r2, r3⟩ := ih (lo + psz (d : Int)) (by omega) hf2
      rw [split_cons hlt, hd]
      refine ⟨fun p hp => ?_, fun x => ?_, List.pairwise_cons.2 ⟨fun q hq => ?_, r3⟩⟩
      · rcases List.mem_cons.1 hp with rfl | hp
        · exact ⟨⟨by show (0 : Int) ≤ (d : Int); omega, by show (d : Int) ≤ 32; omega, hf1⟩, Int.le_refl _, hf2⟩
        · obtain ⟨a1, a2, a3⟩ := r1 p hp
          exact ⟨a1, by omega, a3⟩
      · constructor
        · rintro ⟨p, hp, b1, b2⟩
          rcases List.mem_cons.1 hp with rfl | hp
          · have b1' : lo ≤ x := b1
            have b2' : x < lo + psz (d : Int) := b2
            omega
          · obtain ⟨a1, a2, a3⟩ := r1 p hp
            omega
        · rintro ⟨b1, b2⟩
          by_cases hx : x < lo + psz (d : Int)
          · exact ⟨_, List.mem_cons_self, b1, hx⟩
          · obtain ⟨p, hp, c1, c2⟩ := (r2 x).2 ⟨by omega, b2⟩
            exact ⟨p, List.mem_cons_of_mem _ hp, c1, c2⟩
      · obtain ⟨a1, a2, a3⟩ := r1 q hq
        refine ⟨a2, ?_⟩
        rintro ⟨e1, e2, e3, e4⟩
        have e1' : (d : Int) = q.2 := e1
        have e2' : (0 : Int) < (d : Int) := e2
        have e3' : q.1 = lo + psz (d : Int) := e3
        have e4' : lo % (2 * psz (d : Int)) = 0 := e4
        rcases hmax with h | h
        · omega
        · refine h ⟨?_, ?_⟩
          · rw [psz_up d (by omega) hd32]; exact e4'
          · rw [psz_up d (by omega) hd32]
            rw [← e1'] at a3
            omega
    · rw [split_nil hlt]
      refine ⟨fun p hp => by (cases hp), fun x => ⟨fun ⟨p, hp, _⟩ => by (cases hp), fun h => by omega⟩, List.Pairwise.nil⟩
theorem cut_all : ∀ (l : List (Int × Int)) (lo : Int), SpOk lo l →
    (∀ p ∈ cut l, (0 ≤ p.2 ∧ p.2 ≤ 32 ∧ p.1 % psz p.2 = 0) ∧ lo < p.1) ∧ (∀ x, (∃ p ∈ cut l, p.1 ≤ x ∧ x < p.1 + psz p.2) ↔ inS l x) ∧ (cut l).Pairwise Ln
  | [], lo, _ => ⟨fun p hp => by (cases hp), fun x => ⟨fun ⟨p, hp, _⟩ => by (cases hp), fun h => absurd h inS_nil⟩, List.Pairwise.nil⟩
  | s :: l, lo, h => by
    obtain ⟨h1, h2, h3⟩ := h
    obtain ⟨r1, r2, r3⟩ := cut_all l s.2 h3
    obtain ⟨t1, t2, t3⟩ := split_all s.2 _ s.1 (Nat.le_refl _) (by omega)
    have e : cut (s :: l) = split s.1 s.2 ++ cut l := rfl
    rw [e]
    refine ⟨fun p hp => ?_, fun x => ?_, List.pairwise_append.2 ⟨t3, r3, fun p hp q hq => ?_⟩⟩
    · rcases List.mem_append.1 hp with hp | hp
      · obtain ⟨a1, a2, a3⟩ := t1 p hp
        exact ⟨a1, by omega⟩
      · obtain ⟨a1, a2⟩ := r1 p hp
        exact ⟨a1, by omega⟩
    · rw [inS_cons, ← r2 x, ← t2 x]
      constructor
      · rintro ⟨p, hp, b⟩
        rcases List.mem_append.1 hp with hp | hp
        · exact Or.inl ⟨p, hp, b⟩
        · exact Or.inr ⟨p, hp, b⟩
      · rintro (⟨p, hp, b⟩ | ⟨p, hp, b⟩)
        · exact ⟨p, List.mem_append_left _ hp, b⟩
        · exact ⟨p, List.mem_append_right _ hp, b⟩
    · obtain ⟨a1, a2, a3⟩ := t1 p hp
      obtain ⟨b1, b2⟩ := r1 q hq
      exact ⟨by omega, fun h => by have := h.2.2.1; omega⟩
/-- the list of a set of addresses -/
def IsSet (R : List (Int × Int)) (inn : Int → Bool) : Prop := ∃ l, SpOk (-1) l ∧ R = cut l ∧ ∀ x, inS l x ↔ 0 ≤ x ∧ x < 4294967296 ∧ inn x = true
theorem isSet_uniq {R R' : List (Int × Int)} {f g : Int → Bool} (h : IsSet R f) (h' : IsSet R' g) (he : ∀ x, 0 ≤ x → x < 4294967296 → f x = g x) : R = R' := by
  obtain ⟨l, h1, rfl, h2⟩ := h
  obtain ⟨l', h1', rfl, h2'⟩ := h'
  rw [sp_uniq l l' (-1) (-1) h1 h1' (fun x => by
    rw [h2 x, h2' x]
    constructor
    · rintro ⟨a, b, c⟩; exact ⟨a, b, by rw [← he x a b]; exact c⟩
    · rintro ⟨a, b, c⟩; exact ⟨a, b, by rw [he x a b]; exact c⟩)]
theorem isSet_has {R : List (Int × Int)} {f : Int → Bool} (h : IsSet R f) {x : Int} (hx : 0 ≤ x) (hx2 : x < 4294967296) : anyH R x = f x := by
  obtain ⟨l, h1, rfl, h2⟩ := h
  obtain ⟨c1, c2, c3⟩ := cut_all l (-1) h1
  rw [Bool.eq_iff_iff, anyH_iff]
  constructor
  · rintro ⟨p, hp, hh⟩
    obtain ⟨a, b, c⟩ := (has_iff _ _ _).1 hh
    exact ((h2 x).1 ((c2 x).1 ⟨p, hp, b, c⟩)).2.2
  · intro hf
    obtain ⟨p, hp, b, c⟩ := (c2 x).2 ((h2 x).2 ⟨hx, hx2, hf⟩)
    exact ⟨p, hp, (has_iff _ _ _).2 ⟨(c1 p hp).1, b, c⟩⟩
theorem isSet_lean {R : List (Int × Int)} {f : Int → Bool} (h : IsSet R f) : R.Pairwise Ln ∧ ∀ p ∈ R, vld p.1 p.2 = true ∧ InA p := by
  obtain ⟨l, h1, rfl, h2⟩ := h
  obtain ⟨c1, c2, c3⟩ := cut_all l (-1) h1
  refine ⟨c3, fun p hp => ⟨(vld_iff _ _).2 (c1 p hp).1, ?_⟩⟩
  have h3 := psz_pos p.2
  have h4 := (h2 p.1).1 ((c2 p.1).1 ⟨p, hp, Int.le_refl _, by omega⟩)
  exact ⟨h4.1, h4.2.1⟩
theorem isSet_K (k : Int) (ps qs : List (Int × Int)) (hp : ∀ p ∈ ps, InA p) (hq : ∀ p ∈ qs, InA p) : IsSet (setK k ps qs) (innW k ps qs) := by
  have hpa : ∀ p ∈ ps ++ qs, InA p := fun p h => by
    rcases List.mem_append.1 h with h | h
    · exact hp p h
    · exact hq p h
  have hE := ends_eok (ps ++ qs) hpa
  obtain ⟨h1, r, hr⟩ := eok_ends hE (innW k ps qs) (innW_const hE k)
  rw [hr] at h1
  obtain ⟨h2, h3⟩ := runs_spec (innW k ps qs) r 0 false 0 (-1) h1 (fun e => by cases e) (fun _ => by omega)
  refine ⟨_, h2, by unfold setK setP; rw [hr], fun x => ?_⟩
  rw [h3 x]
  simp
theorem anyH_app (ps qs : List (Int × Int)) (x : Int) : anyH (ps ++ qs) x = (anyH ps x || anyH qs x) := by unfold anyH; rw [List.any_append]
theorem anyH_rev (ps : List (Int × Int)) (x : Int) : anyH ps.reverse x = anyH ps x := by unfold anyH; rw [List.any_reverse]
theorem xor_zero {a b : Nat} (h : a ^^^ b = 0) : a = b := by
  have h1 : (a ^^^ b) ^^^ b = 0 ^^^ b := by rw [h]
  rw [Nat.xor_assoc, Nat.xor_self, Nat.xor_zero, Nat.zero_xor] at h1
  exact h1
/-- two halves of one, by their addresses -/
theorem xor_half {a b k : Nat} (h : a ^^^ b = 2 ^ k) (hab : a < b) (ha : a % 2 ^ k = 0) (hb : b % 2 ^ k = 0) : b = a + 2 ^ k ∧ a % (2 * 2 ^ k) = 0 := by
  have h1 : (a ^^^ b) / 2 ^ (k + 1) = a / 2 ^ (k + 1) ^^^ b / 2 ^ (k + 1) := Nat.xor_div_two_pow
  have h2 : (2 : Nat) ^ k / 2 ^ (k + 1) = 0 := Nat.div_eq_of_lt (Nat.pow_lt_pow_right (by decide) (by omega))
  rw [h, h2] at h1
  have h3 : a / 2 ^ (k + 1) = b / 2 ^ (k + 1) := xor_zero h1.symm
  have e : (2 : Nat) ^ (k + 1) = 2 * 2 ^ k := by rw [Nat.pow_succ, Nat.mul_comm]
  rw [e] at h3
  obtain ⟨P, hP⟩ : ∃ P, (2 : Nat) ^ k = P := ⟨_, rfl⟩
  rw [hP] at ha hb h3 ⊢
  have hP0 : 0 < P := by rw [← hP]; exact Nat.two_pow_pos k
  obtain ⟨a', rfl⟩ := Nat.dvd_of_mod_eq_zero ha
  obtain ⟨b', rfl⟩ := Nat.dvd_of_mod_eq_zero hb
  rw [Nat.mul_comm 2 P, Nat.mul_div_mul_left _ _ hP0, Nat.mul_div_mul_left _ _ hP0] at h3
  have hab' : a' < b' := Nat.lt_of_mul_lt_mul_left hab
  have h4 : b' = a' + 1 := by omega
  have h5 : a' % 2 = 0 := by omega
  rw [Nat.mul_comm 2 P, Nat.mul_mod_mul_left, h5, h4, Nat.mul_add]
  exact ⟨by omega, rfl⟩
end Go.Proofs.YtagfdmkgnedlbabDoor.Pc
