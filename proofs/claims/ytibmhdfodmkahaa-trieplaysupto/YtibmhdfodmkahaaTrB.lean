/- shared: what it answers. -/
import Derived.Test.YtibmhdfodmkahaaTrA
namespace Go.Proofs.Ytibmhdfodmkahaa.Tri
open Go.ChangeShapes Go.WideShapes Go.ChangeAt Go.RowKit Go.Proofs.Ytibmhdfodmkahaa.PM Go.Proofs.Ytibmhdfodmkahaa.TrM
set_option linter.unusedVariables false

theorem xor_u32 (b a : Int) (b0 : 0 ≤ b) (b1 : b < 4294967296) (a0 : 0 ≤ a) (a1 : a < 4294967296) : bits .xor .u32 b a = ((b.toNat ^^^ a.toNat : Nat) : Int) := u32_xor b a b0 b1 a0 a1
theorem shN_bd (b a : Int) (b0 : 0 ≤ b) (b1 : b < 4294967296) (a0 : 0 ≤ a) (a1 : a < 4294967296) : 0 ≤ shN b a ∧ shN b a ≤ 32 := by
  have : Lib.bitLen (b.toNat ^^^ a.toNat) ≤ 32 := Lib.bitLen_le _ 32 (by omega) (Nat.xor_lt_two_pow (by omega) (by omega))
  unfold shN; omega
theorem shA_bits (b k : Int) (b0 : 0 ≤ b) (b1 : b < 4294967296) (k0 : 0 ≤ k) (k1 : k ≤ 32) : bits .andNot .u32 b (4294967295 / 2 ^ k.toNat) = b - b % psz k := by
  have e : (4294967295 : Int) / 2 ^ k.toNat = psz k - 1 := by
    have h1 := psz_pow k k0 k1
    have h2 : (0 : Int) < 2 ^ k.toNat := Int.pow_pos (by omega)
    have h3 := psz_pos k
    have : (4294967295 : Int) = (2 ^ k.toNat - 1) + (psz k - 1) * 2 ^ k.toNat := by rw [Int.sub_mul, h1]; omega
    rw [this, Int.add_mul_ediv_right _ _ (by omega), Int.ediv_eq_zero_of_lt (by omega) (by omega)]; omega
  have h2 := psz_le k; have h3 := psz_pos k
  rw [e, u32_andNot b _ b0 b1 (by omega) (by omega)]
  have e2 : 4294967295 - (psz k - 1).toNat = 2 ^ 32 - 2 ^ (32 - k.toNat) := by
    have h := psz_nat k
    have h4 : (2 : Nat) ^ 32 = 4294967296 := by decide
    omega
  rw [e2, nat_high b.toNat (32 - k.toNat) (by have h4 : (2 : Nat) ^ 32 = 4294967296 := by decide
                                              omega) (by omega), psz_nat]
  have e3 : b = ((b.toNat : Nat) : Int) := by omega
  have hle := Nat.mod_le b.toNat (2 ^ (32 - k.toNat))
  conv => rhs; rw [e3]
  rw [Int.ofNat_sub hle]
  rfl

theorem lz_is (x k : Int) (hk : 32 - (Lib.bitLen x.toNat : Int) = k) (h0 : 0 ≤ x) (h1 : x ≤ 4294967295) (w : World) :
    Calls Try.prog 51 #[.int .u32 x] w fun e w' => e = .returned (.int .i64 k) ∧ w' = w := by
  rw [← hk]; exact Try.bits_LeadingZeros32 x w h0 h1

theorem fin_eq {v v' : Value} (h : v' = v) : Ending.returned v = .returned v' := by rw [h]

set_option maxHeartbeats 1000000 in
theorem shared_any (b m a n : Int) (b0 : 0 ≤ b) (b1 : b < 4294967296) (a0 : 0 ≤ a) (a1 : a < 4294967296) (w : World) :
    Calls Try.prog 44 #[.agg #[.int .u32 b, .int .i64 m], .agg #[.int .u32 a, .int .i64 n]] w fun e w' => e = .returned (.agg #[.int .u32 (shA b a), .int .i64 (shN b a)]) ∧ Below w.heap.size w w' := by
  obtain ⟨k, hk⟩ : ∃ k, shN b a = k := ⟨_, rfl⟩
  have kb := shN_bd b a b0 b1 a0 a1
  rw [hk] at kb
  have k0 := kb.1
  have k1 := kb.2
  have hx := xor_u32 b a b0 b1 a0 a1
  have hxb : 0 ≤ bits .xor .u32 b a ∧ bits .xor .u32 b a ≤ 4294967295 := by
    rw [hx]
    have : b.toNat ^^^ a.toNat < 2 ^ 32 := Nat.xor_lt_two_pow (by omega) (by omega)
    omega
  have HK : Hid (32 - (Lib.bitLen (bits .xor .u32 b a).toNat : Int) = k) := by
    show _ = _; rw [hx, ← hk]; unfold shN; rw [Int.toNat_natCast]
  have hand := shA_bits b k b0 b1 k0 k1
  have HG : Hid (Value.agg #[.int .u32 (shA b a), .int .i64 (shN b a)] = .agg #[.int .u32 (b - b % psz k), .int .i64 k]) := by
    show _ = _; unfold shA; rw [hk]
  clear hx hk kb
  go_enter Try.func44, Try.ntmps44
  go_wp2_with (go_at_call 51; refine (lz_is _ k HK.out hxb.1 hxb.2 _).mono ?_; rintro e w1 ⟨rfl, rfl⟩)
  go_region
  all_goals
    go_wp2_with fail
    exact bodyPost_ret (v := .agg #[.int .u32 (b - b % psz k), .int .i64 k]) (by simp [results, Try.results44, go_sem]) rfl ⟨fin_eq HG.out, ((((Below.refl _ _).alloc (Nat.le_refl _) _).alloc (by simp) _).alloc (by simp; omega) _).drew⟩
end Go.Proofs.Ytibmhdfodmkahaa.Tri
