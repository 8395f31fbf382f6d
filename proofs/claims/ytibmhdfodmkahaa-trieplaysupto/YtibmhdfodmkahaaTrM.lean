/- Tries of prefixes: putting, dropping, looking up, and the longest match; plain trees and arithmetic alone. -/
import Derived.Test.YtibmhdfodmkahaaPMath
namespace Go.Proofs.Ytibmhdfodmkahaa.TrM
open Go.Proofs.Ytibmhdfodmkahaa.PM

/-- a trie of prefixes with values -/
inductive Tr where
  | nil : Tr
  | node (a n v : Int) (h : Bool) (l r : Tr) : Tr

/-- the bit of x behind the first n -/
def sdI (x n : Int) : Int := x * 2 ^ n.toNat % 4294967296 / 2147483648
theorem sdI_01 (x n : Int) : sdI x n = 0 ∨ sdI x n = 1 := by unfold sdI; omega

theorem psz_pow (n : Int) (h0 : 0 ≤ n) (h1 : n ≤ 32) : psz n * 2 ^ n.toNat = 4294967296 := by
  unfold psz; rw [← Int.pow_add]
  have : 32 - n.toNat + n.toNat = 32 := by omega
  rw [this]; decide
theorem cov_iff (a n b m : Int) : cov a n b m = true ↔ (0 ≤ m ∧ m ≤ 32 ∧ b % psz m = 0) ∧ n ≤ m ∧ (0 ≤ n ∧ n ≤ 32 ∧ a % psz n = 0) ∧ a ≤ b ∧ b < a + psz n := by
  unfold cov; rw [Bool.and_eq_true, Bool.and_eq_true, vld_iff, has_iff, decide_eq_true_iff]
  constructor
  · rintro ⟨⟨h1, h2⟩, h3, h4⟩; exact ⟨h1, h2, h3, h4⟩
  · rintro ⟨h1, h2, h3, h4⟩; exact ⟨⟨h1, h2⟩, h3, h4⟩
/-- the side of an address in a prefix: in which half it lies -/
theorem side_half (a n b : Int) (h0 : 0 ≤ n) (h1 : n < 32) (ha : a % psz n = 0) (h2 : a ≤ b) (h3 : b < a + psz n) :
    sdI b n = (b - a) / psz (n + 1) := by
  have e1 := psz_pow n h0 (by omega)
  have e2 := psz_succ n h0 h1
  have hp := psz_pos (n + 1)
  have hk : (0 : Int) < 2 ^ n.toNat := Int.pow_pos (by omega)
  obtain ⟨d, hd⟩ : ∃ d, a = psz n * d := ⟨a / psz n, by have := Int.mul_ediv_add_emod a (psz n); omega⟩
  obtain ⟨r, hr⟩ : ∃ r, b = a + r := ⟨b - a, by omega⟩
  have hr0 : 0 ≤ r := by omega
  have hr1 : r < psz n := by omega
  have e3 : b * 2 ^ n.toNat = 4294967296 * d + r * 2 ^ n.toNat := by
    rw [hr, hd, Int.add_mul, ← e1]
    rw [Int.mul_assoc, Int.mul_comm d, ← Int.mul_assoc]
  have e4 : r * 2 ^ n.toNat < 4294967296 := by
    rw [← e1]; exact Int.mul_lt_mul_of_pos_right hr1 hk
  have e5 : 0 ≤ r * 2 ^ n.toNat := Int.mul_nonneg hr0 (by omega)
  have e6 : psz (n + 1) * 2 ^ n.toNat = 2147483648 := by
    have : 2 * (psz (n + 1) * 2 ^ n.toNat) = 4294967296 := by rw [← Int.mul_assoc, ← e2, e1]
    omega
  unfold sdI
  rw [e3]
  have e7 : (4294967296 * d + r * 2 ^ n.toNat) % 4294967296 = r * 2 ^ n.toNat := by omega
  rw [e7, ← e6, Int.mul_ediv_mul_of_pos_left _ _ hk]
  have : b - a = r := by omega
  rw [this]
/-- the halves -/
def kid (a n s : Int) : Int := a + s * psz (n + 1)
theorem side_kid {a n b m : Int} (h : cov a n b m = true) (hn : n < m) (s : Int) (hs : sdI b n = s) : cov (kid a n s) (n + 1) b m = true := by
  obtain ⟨⟨m0, m1, hb⟩, _, ⟨n0, n1, ha⟩, h2, h3⟩ := (cov_iff a n b m).1 h
  have e := side_half a n b n0 (by omega) ha h2 h3
  have e2 := psz_succ n n0 (by omega)
  have hp := psz_pos (n + 1)
  rw [hs] at e
  rw [cov_iff]
  have hq0 := Int.mul_ediv_add_emod (b - a) (psz (n + 1))
  have hr0 := Int.emod_nonneg (b - a) (by omega : psz (n + 1) ≠ 0)
  have hr1 := Int.emod_lt_of_pos (b - a) (by omega : 0 < psz (n + 1))
  rw [← e, Int.mul_comm] at hq0
  refine ⟨⟨m0, m1, hb⟩, by omega, ⟨by omega, by omega, ?_⟩, ?_, ?_⟩
  · unfold kid
    obtain ⟨d, hd⟩ : ∃ d, a = psz n * d := ⟨a / psz n, by have := Int.mul_ediv_add_emod a (psz n); omega⟩
    have : a + s * psz (n + 1) = psz (n + 1) * (2 * d + s) := by
      rw [hd, e2, Int.mul_add, Int.mul_comm 2 (psz (n + 1)), Int.mul_assoc, Int.mul_comm s]
    rw [this]; exact Int.mul_emod_right _ _
  · unfold kid; omega
  · unfold kid; omega
theorem kid_side {a n b m s : Int} (ha : vld a n = true) (hn : n < 32) (hs : s = 0 ∨ s = 1) (h : cov (kid a n s) (n + 1) b m = true) : cov a n b m = true ∧ n < m ∧ sdI b n = s := by
  obtain ⟨⟨m0, m1, hb⟩, h1, ⟨n0, n1, hk⟩, h2, h3⟩ := (cov_iff _ _ b m).1 h
  obtain ⟨k0, k1, ha2⟩ := (vld_iff a n).1 ha
  have e2 := psz_succ n k0 hn
  have hp := psz_pos (n + 1)
  unfold kid at h2 h3
  have hlo : a ≤ b := by rcases hs with rfl | rfl <;> omega
  have hhi : b < a + psz n := by rcases hs with rfl | rfl <;> omega
  have e := side_half a n b k0 hn ha2 hlo hhi
  refine ⟨(cov_iff a n b m).2 ⟨⟨m0, m1, hb⟩, by omega, ⟨k0, k1, ha2⟩, hlo, hhi⟩, by omega, ?_⟩
  rw [e]
  have : b - a = s * psz (n + 1) + (b - a - s * psz (n + 1)) := by omega
  rw [this, Int.add_comm, Int.add_mul_ediv_right _ _ (by omega), Int.ediv_eq_zero_of_lt (by omega) (by omega)]
  omega
theorem cov_trans {a n b m c k : Int} (h1 : cov a n b m = true) (h2 : cov b m c k = true) : cov a n c k = true := by
  obtain ⟨⟨m0, m1, hb⟩, hnm, ⟨n0, n1, ha⟩, p1, p2⟩ := (cov_iff a n b m).1 h1
  obtain ⟨⟨k0, k1, hc⟩, hmk, _, q1, q2⟩ := (cov_iff b m c k).1 h2
  rw [cov_iff]
  refine ⟨⟨k0, k1, hc⟩, by omega, ⟨n0, n1, ha⟩, by omega, ?_⟩
  obtain ⟨d, hd, e⟩ := psz_dvd n m n0 hnm m1
  have hp := psz_pos m
  have ha3 : a % psz m = 0 := by
    have h1 := Int.mul_ediv_add_emod a (psz n)
    have : a = psz m * (d * (a / psz n)) := by
      rw [← Int.mul_assoc, Int.mul_comm (psz m) d, ← e]; omega
    rw [this]; exact Int.mul_emod_right _ _
  obtain ⟨j, hj⟩ := dvd_gap b a (psz m) hp hb ha3
  have hkd : j < d := by
    apply Int.lt_of_mul_lt_mul_right (a := psz m) _ (by omega)
    rw [← e, ← hj]; omega
  have h5 : (j + 1) * psz m ≤ d * psz m := Int.mul_le_mul_of_nonneg_right (by omega) (by omega)
  rw [Int.add_mul, ← e, ← hj] at h5
  omega
theorem cov_self {a n : Int} (h : vld a n = true) : cov a n a n = true := by
  obtain ⟨h0, h1, h2⟩ := (vld_iff a n).1 h
  have := psz_pos n
  rw [cov_iff]; exact ⟨⟨h0, h1, h2⟩, by omega, ⟨h0, h1, h2⟩, by omega, by omega⟩
theorem cov_eq {a n b m : Int} (h : cov a n b m = true) (hm : m ≤ n) : a = b ∧ n = m := by
  obtain ⟨⟨m0, m1, hb⟩, hnm, ⟨n0, n1, ha⟩, p1, p2⟩ := (cov_iff a n b m).1 h
  have e : n = m := by omega
  subst e
  obtain ⟨j, hj⟩ := dvd_gap b a (psz n) (psz_pos n) hb ha
  have hp := psz_pos n
  have : j = 0 := by
    have h1 : j * psz n < 1 * psz n := by omega
    have h2 : (-1) * psz n < j * psz n := by omega
    have h3 := Int.lt_of_mul_lt_mul_right h1 (by omega)
    have h4 := Int.lt_of_mul_lt_mul_right h2 (by omega)
    omega
  subst this
  exact ⟨by omega, rfl⟩
theorem cov_vld {a n b m : Int} (h : cov a n b m = true) : vld a n = true ∧ vld b m = true ∧ n ≤ m ∧ a ≤ b := by
  obtain ⟨hb, hnm, ha, p1, p2⟩ := (cov_iff a n b m).1 h
  exact ⟨(vld_iff a n).2 ha, (vld_iff b m).2 hb, hnm, p1⟩
/-- who are strictly covered are longer -/
theorem cov_lt {a n b m : Int} (h : cov a n b m = true) (hne : ¬ (a = b ∧ n = m)) : n < m := by
  have := (cov_vld h).2.2.1
  by_cases e : m ≤ n
  · exact absurd (cov_eq h e) hne
  · omega
/-- two that both cover a third: one covers the other -/
theorem cov_line {a n b m c k : Int} (h1 : cov a n c k = true) (h2 : cov b m c k = true) (h : n ≤ m) : cov a n b m = true := by
  obtain ⟨hc, hnk, ⟨n0, n1, ha⟩, p1, p2⟩ := (cov_iff a n c k).1 h1
  obtain ⟨_, hmk, ⟨m0, m1, hb⟩, q1, q2⟩ := (cov_iff b m c k).1 h2
  rw [cov_iff]
  obtain ⟨d, hd, e⟩ := psz_dvd n m n0 h m1
  have hp := psz_pos m
  have ha3 : a % psz m = 0 := by
    have h1 := Int.mul_ediv_add_emod a (psz n)
    have : a = psz m * (d * (a / psz n)) := by
      rw [← Int.mul_assoc, Int.mul_comm (psz m) d, ← e]; omega
    rw [this]; exact Int.mul_emod_right _ _
  obtain ⟨j, hj⟩ := dvd_gap b a (psz m) hp hb ha3
  refine ⟨⟨m0, m1, hb⟩, h, ⟨n0, n1, ha⟩, ?_, ?_⟩
  · have : (-1) * psz m < j * psz m := by omega
    have := Int.lt_of_mul_lt_mul_right this (by omega)
    have : 0 * psz m ≤ j * psz m := Int.mul_le_mul_of_nonneg_right (by omega) (by omega)
    omega
  · omega
end Go.Proofs.Ytibmhdfodmkahaa.TrM
