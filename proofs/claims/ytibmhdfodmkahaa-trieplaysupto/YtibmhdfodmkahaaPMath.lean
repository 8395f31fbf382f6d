/- Numbers of prefixes: sizes, masks, and when one prefix has or covers another; plain arithmetic alone. -/
import Derived.Laws.BitsAllLaws
namespace Go.Proofs.Ytibmhdfodmkahaa.PM

/-- how many addresses a prefix of a length has -/
def psz (n : Int) : Int := 2 ^ (32 - n.toNat)

theorem psz_nat (n : Int) : psz n = ((2 ^ (32 - n.toNat) : Nat) : Int) := by unfold psz; simp
theorem psz_pos (n : Int) : 1 ≤ psz n := by
  rw [psz_nat]; have := Nat.two_pow_pos (32 - n.toNat); omega
theorem psz_le (n : Int) : psz n ≤ 4294967296 := by
  rw [psz_nat]
  have h : (2 : Nat) ^ (32 - n.toNat) ≤ 2 ^ 32 := Nat.pow_le_pow_right (by omega) (by omega)
  have h2 : (2 : Nat) ^ 32 = 4294967296 := by decide
  omega
theorem psz_succ (n : Int) (h0 : 0 ≤ n) (h1 : n < 32) : psz n = 2 * psz (n + 1) := by
  unfold psz
  have e : 32 - n.toNat = (32 - (n + 1).toNat) + 1 := by omega
  rw [e, Int.pow_succ]; omega
theorem psz_32 : psz 32 = 1 := by decide
theorem psz_0 : psz 0 = 4294967296 := by decide
theorem psz_dvd (n m : Int) (h0 : 0 ≤ n) (h : n ≤ m) (h1 : m ≤ 32) : ∃ d : Int, 1 ≤ d ∧ psz n = d * psz m := by
  refine ⟨2 ^ (m.toNat - n.toNat), ?_, ?_⟩
  · have : (0 : Int) < 2 ^ (m.toNat - n.toNat) := Int.pow_pos (by omega)
    omega
  · unfold psz; rw [← Int.pow_add]; congr 1; omega
theorem psz_lt (n m : Int) (h0 : 0 ≤ m) (h : m < n) (h1 : n ≤ 32) : 2 * psz n ≤ psz m := by
  obtain ⟨d, hd, e⟩ := psz_dvd (m + 1) n (by omega) (by omega) h1
  have e2 := psz_succ m h0 (by omega)
  have hp := psz_pos n
  have : psz n ≤ psz (m + 1) := by
    rw [e]
    have := Int.mul_le_mul_of_nonneg_right hd (by omega : 0 ≤ psz n)
    omega
  omega

theorem wrap_psz (n : Int) (h0 : 0 ≤ n) (h1 : n ≤ 32) : IntKind.u64.wrap (2 ^ (32 - n).toNat) = psz n := by
  have e : (32 - n).toNat = 32 - n.toNat := by omega
  rw [e]
  have h := psz_le n; have h2 := psz_pos n
  unfold psz at *
  simp only [IntKind.wrap, IntKind.bits, IntKind.signed]
  simp
  omega

theorem mask_eq (n : Int) (h0 : 0 ≤ n) (h1 : n ≤ 32) : 4294967295 * 2 ^ (32 - n).toNat % 4294967296 = 4294967296 - psz n ∨ (n = 0 ∧ 4294967295 * 2 ^ (32 - n).toNat % 4294967296 = (0 : Int)) := by
  have e : (32 - n).toNat = 32 - n.toNat := by omega
  rw [e]
  change 4294967295 * psz n % 4294967296 = _ ∨ _
  by_cases hn : n = 0
  · right; subst hn; exact ⟨rfl, by decide⟩
  · left
    have h := psz_lt n 0 (by omega) (by omega) h1
    have h2 := psz_pos n
    rw [psz_0] at h
    omega

/-- the mask of a length, as the code has it -/
def msk (n : Int) : Int := 4294967296 - psz n
theorem msk_eq (n : Int) (h0 : 0 ≤ n) (h1 : n ≤ 32) : 4294967295 * 2 ^ (32 - n).toNat % 4294967296 = msk n := by
  rcases mask_eq n h0 h1 with h | ⟨rfl, h⟩
  · exact h
  · rw [h]; decide
theorem msk_bd (n : Int) : 0 ≤ msk n ∧ msk n < 4294967296 := by
  have := psz_le n; have := psz_pos n; unfold msk; omega

theorem andNot_mask (a n : Int) (ha : 0 ≤ a) (ha2 : a < 4294967296) : bits .andNot .u32 a (msk n) = a % psz n := by
  have hb := msk_bd n
  rw [u32_andNot a (msk n) ha ha2 hb.1 hb.2]
  have e : 4294967295 - (msk n).toNat = 2 ^ (32 - n.toNat) - 1 := by
    have h := psz_nat n; have h2 := psz_le n; have h3 := psz_pos n
    unfold msk
    omega
  rw [e, Nat.and_two_pow_sub_one_eq_mod, psz_nat]
  have e3 : a = ((a.toNat : Nat) : Int) := by omega
  conv => rhs; rw [e3]
  rfl

theorem nat_high (x k : Nat) (hx : x < 2 ^ 32) (hk : k ≤ 32) : x &&& (2 ^ 32 - 2 ^ k) = x - x % 2 ^ k := by
  have h1 : x = 2 ^ k * (x / 2 ^ k) + x % 2 ^ k := (Nat.div_add_mod x (2 ^ k)).symm
  have h2 : x - x % 2 ^ k = (x / 2 ^ k) <<< k := by
    rw [Nat.shiftLeft_eq, Nat.mul_comm]; omega
  have h3 : 2 ^ 32 - 2 ^ k = (2 ^ (32 - k) - 1) <<< k := by
    rw [Nat.shiftLeft_eq, Nat.sub_mul, ← Nat.pow_add]
    have : 32 - k + k = 32 := by omega
    rw [this]; omega
  rw [h2, h3]
  apply Nat.eq_of_testBit_eq
  intro i
  simp only [Nat.testBit_and, Nat.testBit_shiftLeft, Nat.testBit_two_pow_sub_one, Nat.testBit_div_two_pow]
  by_cases hi : k ≤ i
  · have e : i - k + k = i := by omega
    simp only [hi, e, decide_true, Bool.true_and]
    by_cases hj : i < 32
    · have : i - k < 32 - k := by omega
      simp [this]
    · have hz : x.testBit i = false := Nat.testBit_lt_two_pow (Nat.lt_of_lt_of_le hx (Nat.pow_le_pow_right (by omega) (by omega)))
      simp [hz]
  · simp [hi]

theorem and_mask (a n : Int) (ha : 0 ≤ a) (ha2 : a < 4294967296) : bits .and .u32 a (msk n) = a - a % psz n := by
  have hb := msk_bd n
  rw [u32_and a (msk n) ha ha2 hb.1 hb.2]
  have e : (msk n).toNat = 2 ^ 32 - 2 ^ (32 - n.toNat) := by
    have h := psz_nat n; have h2 := psz_le n; have h3 := psz_pos n
    have h4 : (2 : Nat) ^ 32 = 4294967296 := by decide
    unfold msk
    omega
  rw [e, nat_high a.toNat (32 - n.toNat) (by have h4 : (2 : Nat) ^ 32 = 4294967296 := by decide
                                             omega) (by omega), psz_nat]
  have e3 : a = ((a.toNat : Nat) : Int) := by omega
  have hle := Nat.mod_le a.toNat (2 ^ (32 - n.toNat))
  conv => rhs; rw [e3]
  rw [Int.ofNat_sub hle]
  rfl

/-- is it a valid prefix? -/
def vld (a n : Int) : Bool := decide (0 ≤ n ∧ n ≤ 32 ∧ a % psz n = 0)
theorem vld_iff (a n : Int) : vld a n = true ↔ 0 ≤ n ∧ n ≤ 32 ∧ a % psz n = 0 := by simp [vld]

/-- has the prefix (a, n) the address x? -/
def has (a n x : Int) : Bool := vld a n && decide (a ≤ x ∧ x < a + psz n)
theorem has_iff (a n x : Int) : has a n x = true ↔ (0 ≤ n ∧ n ≤ 32 ∧ a % psz n = 0) ∧ a ≤ x ∧ x < a + psz n := by simp [has, vld_iff]

/-- does (a, n) cover (b, m)? -/
def cov (a n b m : Int) : Bool := vld b m && decide (n ≤ m) && has a n b
/-- which stands first -/
def ord (a n b m : Int) : Int := if a = b ∧ n = m then 0 else if a < b ∨ (a = b ∧ n < m) then -1 else 1

theorem emod_iff (a x s : Int) (hs : 1 ≤ s) (ha : a % s = 0) : x - x % s = a ↔ a ≤ x ∧ x < a + s := by
  have hx0 := Int.emod_nonneg x (by omega : s ≠ 0)
  have hx1 := Int.emod_lt_of_pos x (by omega : 0 < s)
  constructor
  · omega
  · intro ⟨h1, h2⟩
    have e : x % s = x - a := by
      have h3 : (x - a) % s = x % s := by rw [Int.sub_emod, ha]; simp
      rw [← h3, Int.emod_eq_of_lt (by omega) (by omega)]
    omega

theorem has_mask (a n x : Int) (h : vld a n = true) : (x - x % psz n == a) = has a n x := by
  rw [Bool.eq_iff_iff, has_iff, beq_iff_eq, emod_iff a x (psz n) (psz_pos n) ((vld_iff a n).1 h).2.2]
  have := (vld_iff a n).1 h
  constructor
  · intro k; exact ⟨this, k⟩
  · intro k; exact k.2

/-- the last address of a valid prefix is an address -/
theorem vld_end (b m : Int) (h : vld b m = true) (hb : b < 4294967296) : b + psz m ≤ 4294967296 := by
  obtain ⟨h0, h1, h2⟩ := (vld_iff b m).1 h
  obtain ⟨d, hd, e⟩ := psz_dvd 0 m (by omega) h0 h1
  rw [psz_0] at e
  have hp := psz_pos m
  have hdiv : b = psz m * (b / psz m) := by have := Int.mul_ediv_add_emod b (psz m); omega
  have : b / psz m < d := by
    apply Int.lt_of_mul_lt_mul_right (a := psz m) _ (by omega)
    rw [← e, Int.mul_comm]; omega
  have h5 : (b / psz m + 1) * psz m ≤ d * psz m := Int.mul_le_mul_of_nonneg_right (by omega) (by omega)
  rw [Int.add_mul, ← e] at h5
  rw [hdiv]
  rw [Int.mul_comm] at h5
  omega

theorem dvd_gap (b a s : Int) (_hs : 1 ≤ s) (hb : b % s = 0) (ha : a % s = 0) : ∃ k, b - a = k * s := by
  refine ⟨b / s - a / s, ?_⟩
  have h1 := Int.mul_ediv_add_emod b s
  have h2 := Int.mul_ediv_add_emod a s
  rw [Int.sub_mul, Int.mul_comm (b / s), Int.mul_comm (a / s)]; omega

/-- the document's Covers: the first and the last address of q are p's -/
theorem cov_ref (a n b m : Int) (ha : vld a n = true) (hb : vld b m = true) (hx : has a n b = true) : has a n (b + psz m - 1) = decide (n ≤ m) := by
  obtain ⟨n0, n1, ha2⟩ := (vld_iff a n).1 ha
  obtain ⟨m0, m1, hb2⟩ := (vld_iff b m).1 hb
  obtain ⟨_, hx1, hx2⟩ := (has_iff a n b).1 hx
  have hp := psz_pos m
  have hq := psz_pos n
  rw [Bool.eq_iff_iff, has_iff, decide_eq_true_iff]
  constructor
  · intro ⟨_, _, h3⟩
    by_cases hnm : n ≤ m
    · exact hnm
    · have := psz_lt n m m0 (by omega) n1
      omega
  · intro hnm
    refine ⟨⟨n0, n1, ha2⟩, by omega, ?_⟩
    obtain ⟨d, hd, e⟩ := psz_dvd n m n0 hnm m1
    have ha3 : a % psz m = 0 := by
      have h1 := Int.mul_ediv_add_emod a (psz n)
      have : a = psz m * (d * (a / psz n)) := by
        rw [← Int.mul_assoc, Int.mul_comm (psz m) d, ← e]; omega
      rw [this]; exact Int.mul_emod_right _ _
    obtain ⟨k, hk⟩ := dvd_gap b a (psz m) hp hb2 ha3
    have hkd : k < d := by
      apply Int.lt_of_mul_lt_mul_right (a := psz m) _ (by omega)
      rw [← e, ← hk]; omega
    have h5 : (k + 1) * psz m ≤ d * psz m := Int.mul_le_mul_of_nonneg_right (by omega) (by omega)
    rw [Int.add_mul, ← e, ← hk] at h5
    omega

end Go.Proofs.Ytibmhdfodmkahaa.PM
