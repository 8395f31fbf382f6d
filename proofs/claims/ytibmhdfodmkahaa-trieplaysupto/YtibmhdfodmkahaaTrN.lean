/- Where two prefixes part; putting into a trie and dropping from it, as plain trees. -/
import Derived.Test.YtibmhdfodmkahaaTrM
import Derived.Lib.ItoaNum
namespace Go.Proofs.Ytibmhdfodmkahaa.TrM
open Go.Proofs.Ytibmhdfodmkahaa.PM

/-- how many first bits two addresses share -/
def shN (b a : Int) : Int := 32 - (Lib.bitLen (b.toNat ^^^ a.toNat) : Int)
/-- those bits -/
def shA (b a : Int) : Int := b - b % psz (shN b a)

theorem xor_zero {x y : Nat} (h : x ^^^ y = 0) : x = y := by
  have : (x ^^^ y) ^^^ y = y := by rw [h, Nat.zero_xor]
  rwa [Nat.xor_assoc, Nat.xor_self, Nat.xor_zero] at this

theorem shared_ok {b m a n : Int} (hb : vld b m = true) (ha : vld a n = true) (b0 : 0 ≤ b) (b1 : b < 4294967296) (a0 : 0 ≤ a) (a1 : a < 4294967296)
    (h1 : cov b m a n = false) (h2 : cov a n b m = false) :
    (0 ≤ shN b a ∧ shN b a < m ∧ shN b a < n) ∧ cov (shA b a) (shN b a) b m = true ∧ cov (shA b a) (shN b a) a n = true ∧ sdI b (shN b a) ≠ sdI a (shN b a) ∧ 0 ≤ shA b a ∧ shA b a < 4294967296 := by
  obtain ⟨m0, m1, hb2⟩ := (vld_iff b m).1 hb
  obtain ⟨n0, n1, ha2⟩ := (vld_iff a n).1 ha
  have pm := psz_pos m; have pn := psz_pos n
  have hne : ¬ a = b := by
    intro e; subst e
    by_cases e : m ≤ n
    · have : cov a m a n = true := (cov_iff a m a n).2 ⟨⟨n0, n1, ha2⟩, e, ⟨m0, m1, hb2⟩, by omega, by omega⟩
      rw [this] at h1; cases h1
    · have : cov a n a m = true := (cov_iff a n a m).2 ⟨⟨m0, m1, hb2⟩, by omega, ⟨n0, n1, ha2⟩, by omega, by omega⟩
      rw [this] at h2; cases h2
  obtain ⟨x, hx⟩ : ∃ x, b.toNat ^^^ a.toNat = x := ⟨_, rfl⟩
  have hx0 : x ≠ 0 := by rw [← hx]; intro e; have := xor_zero e; omega
  have hx32 : x < 2 ^ 32 := by rw [← hx]; exact Nat.xor_lt_two_pow (by omega) (by omega)
  obtain ⟨l1, l2, l3⟩ := Lib.bitLenAux_bounds 64 x (Nat.lt_of_lt_of_le hx32 (Nat.pow_le_pow_right (by omega) (by omega))) hx0
  have hLe := Lib.bitLen_le x 32 (by omega) hx32
  obtain ⟨L, hL⟩ : ∃ L, Lib.bitLen x = L := ⟨_, rfl⟩
  change 1 ≤ Lib.bitLen x at l1
  change 2 ^ (Lib.bitLen x - 1) ≤ x at l2
  change x < 2 ^ Lib.bitLen x at l3
  rw [hL] at l1 l2 l3 hLe
  have ek : shN b a = 32 - (L : Int) := by unfold shN; rw [hx, hL]
  obtain ⟨k, hk⟩ : ∃ k, shN b a = k := ⟨_, rfl⟩
  have ekk : k = 32 - (L : Int) := by omega
  have ep : psz k = ((2 ^ L : Nat) : Int) := by rw [psz_nat]; congr 2; omega
  have ep1 : psz (k + 1) = ((2 ^ (L - 1) : Nat) : Int) := by rw [psz_nat]; congr 2; omega
  -- the first bits are the same, the next differs
  have hs : b.toNat / 2 ^ L = a.toNat / 2 ^ L := by
    have : (b.toNat ^^^ a.toNat) >>> L = 0 := by rw [hx, Nat.shiftRight_eq_div_pow]; exact Nat.div_eq_of_lt l3
    rw [Nat.shiftRight_xor_distrib] at this
    have := xor_zero this
    rwa [Nat.shiftRight_eq_div_pow, Nat.shiftRight_eq_div_pow] at this
  have hd : b.toNat / 2 ^ (L - 1) ≠ a.toNat / 2 ^ (L - 1) := by
    intro e
    have : (b.toNat ^^^ a.toNat) >>> (L - 1) = 0 := by
      rw [Nat.shiftRight_xor_distrib, Nat.shiftRight_eq_div_pow, Nat.shiftRight_eq_div_pow, e, Nat.xor_self]
    rw [hx, Nat.shiftRight_eq_div_pow] at this
    have := Nat.div_eq_zero_iff.1 this
    have := Nat.two_pow_pos (L - 1)
    omega
  have hsI : b / psz k = a / psz k := by
    rw [ep]
    have e1 : b = (b.toNat : Int) := by omega
    have e2 : a = (a.toNat : Int) := by omega
    rw [e1, e2, ← Int.natCast_ediv, ← Int.natCast_ediv, hs]
  have hdI : b / psz (k + 1) ≠ a / psz (k + 1) := by
    rw [ep1]
    have e1 : b = (b.toNat : Int) := by omega
    have e2 : a = (a.toNat : Int) := by omega
    rw [e1, e2, ← Int.natCast_ediv, ← Int.natCast_ediv]
    intro e; exact hd (by omega)
  have k0 : 0 ≤ k := by omega
  have k1 : k < 32 := by omega
  have pk := psz_pos k
  have mb := Int.mul_ediv_add_emod b (psz k)
  have ma := Int.mul_ediv_add_emod a (psz k)
  have rb0 := Int.emod_nonneg b (by omega : psz k ≠ 0)
  have rb1 := Int.emod_lt_of_pos b (by omega : 0 < psz k)
  have ra0 := Int.emod_nonneg a (by omega : psz k ≠ 0)
  have ra1 := Int.emod_lt_of_pos a (by omega : 0 < psz k)
  obtain ⟨f, hf⟩ : ∃ f, shA b a = f := ⟨_, rfl⟩
  have ef : f = b - b % psz k := by rw [← hf]; unfold shA; rw [hk]
  have efa : f = a - a % psz k := by rw [hsI] at mb; omega
  have f0 : 0 ≤ f := by
    have h1 := Int.ediv_nonneg b0 (by omega : 0 ≤ psz k)
    have h2 := Int.mul_nonneg (by omega : 0 ≤ psz k) h1
    omega
  have fv : f % psz k = 0 := by
    have : f = psz k * (b / psz k) := by omega
    rw [this]; exact Int.mul_emod_right _ _
  -- both lie in it; so it is shorter than both
  have small : ∀ c j : Int, (0 ≤ j ∧ j ≤ 32 ∧ c % psz j = 0) → j ≤ k → f ≤ c → c < f + psz k → ∀ y, f ≤ y → y < f + psz k → c ≤ y + psz j - 1 → (c ≤ y ∧ y < c + psz j) ∨ ¬ (c ≤ y) := by
    intro c j hc hj _ _ y _ _ _
    by_cases e : c ≤ y
    · left
      obtain ⟨d, hd1, e3⟩ := psz_dvd j k hc.1 hj (by omega)
      refine ⟨e, ?_⟩
      have : psz k ≤ psz j := by rw [e3]; have := Int.mul_le_mul_of_nonneg_right hd1 (by omega : 0 ≤ psz k); omega
      omega
    · right; exact e
  have inside : ∀ c j : Int, (0 ≤ j ∧ j ≤ 32 ∧ c % psz j = 0) → j ≤ k → f ≤ c → c < f + psz k → c = f := by
    intro c j hc hj h3 h4
    obtain ⟨d, hd1, e3⟩ := psz_dvd j k hc.1 hj (by omega)
    have hck : c % psz k = 0 := by
      have h1 := Int.mul_ediv_add_emod c (psz j)
      have : c = psz k * (d * (c / psz j)) := by
        rw [← Int.mul_assoc, Int.mul_comm (psz k) d, ← e3]; omega
      rw [this]; exact Int.mul_emod_right _ _
    obtain ⟨i, hi⟩ := dvd_gap c f (psz k) pk hck fv
    have : i = 0 := by
      have h1 : i * psz k < 1 * psz k := by omega
      have h2 : (-1) * psz k < i * psz k := by omega
      have h3 := Int.lt_of_mul_lt_mul_right h1 (by omega)
      have h4 := Int.lt_of_mul_lt_mul_right h2 (by omega)
      omega
    subst this; omega
  have wide : ∀ j : Int, 0 ≤ j → j ≤ k → psz k ≤ psz j := by
    intro j hj0 hj
    obtain ⟨d, hd1, e3⟩ := psz_dvd j k hj0 hj (by omega)
    rw [e3]; have := Int.mul_le_mul_of_nonneg_right hd1 (by omega : 0 ≤ psz k); omega
  have km : k < m := by
    by_cases e : m ≤ k
    · have hbf := inside b m ⟨m0, m1, hb2⟩ e (by omega) (by omega)
      have hw := wide m m0 e
      by_cases e2 : m ≤ n
      · have : cov b m a n = true := (cov_iff b m a n).2 ⟨⟨n0, n1, ha2⟩, e2, ⟨m0, m1, hb2⟩, by omega, by omega⟩
        rw [this] at h1; cases h1
      · have haf := inside a n ⟨n0, n1, ha2⟩ (by omega) (by omega) (by omega)
        exact absurd (haf.trans hbf.symm) hne
    · omega
  have kn : k < n := by
    by_cases e : n ≤ k
    · have haf := inside a n ⟨n0, n1, ha2⟩ e (by omega) (by omega)
      have hw := wide n n0 e
      have : cov a n b m = true := (cov_iff a n b m).2 ⟨⟨m0, m1, hb2⟩, by omega, ⟨n0, n1, ha2⟩, by omega, by omega⟩
      rw [this] at h2; cases h2
    · omega
  rw [hk, hf]
  refine ⟨⟨k0, km, kn⟩, (cov_iff f k b m).2 ⟨⟨m0, m1, hb2⟩, by omega, ⟨k0, by omega, fv⟩, by omega, by omega⟩, (cov_iff f k a n).2 ⟨⟨n0, n1, ha2⟩, by omega, ⟨k0, by omega, fv⟩, by omega, by omega⟩, ?_, by omega, by omega⟩
  rw [side_half f k b k0 k1 fv (by omega) (by omega), side_half f k a k0 k1 fv (by omega) (by omega)]
  intro e
  apply hdI
  have e2 := psz_succ k k0 k1
  have p1 := psz_pos (k + 1)
  have hfd : f = psz (k + 1) * (2 * (b / psz k)) := by
    have : f = psz k * (b / psz k) := by omega
    rw [this, e2, Int.mul_comm 2, Int.mul_assoc]
  have s1 : b / psz (k + 1) = (b - f) / psz (k + 1) + 2 * (b / psz k) := by
    have : b = (b - f) + 2 * (b / psz k) * psz (k + 1) := by rw [Int.mul_comm (2 * _)]; omega
    conv => lhs; rw [this]
    exact Int.add_mul_ediv_right _ _ (by omega)
  have s2 : a / psz (k + 1) = (a - f) / psz (k + 1) + 2 * (b / psz k) := by
    have : a = (a - f) + 2 * (b / psz k) * psz (k + 1) := by rw [Int.mul_comm (2 * _)]; omega
    conv => lhs; rw [this]
    exact Int.add_mul_ediv_right _ _ (by omega)
  rw [s1, s2, e]
end Go.Proofs.Ytibmhdfodmkahaa.TrM
