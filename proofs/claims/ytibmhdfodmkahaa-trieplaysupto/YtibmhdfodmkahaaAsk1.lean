/- The masks, Valid and the document's Valid: what each answers, at every prefix. -/
import Derived.Test.YtibmhdfodmkahaaRows
import Derived.Test.YtibmhdfodmkahaaPMath
import Derived.WalkKit
import Derived.ProofKit
import Derived.OpenShut
import Derived.WalkLawsBesides
import Derived.Below
import Derived.Deep.QuietTactic
import Derived.BigQuiet
namespace Go.Proofs.Ytibmhdfodmkahaa.Ask
open Go.ChangeShapes Go.WideShapes Go.ChangeAt Go.RowKit Go.Proofs.Ytibmhdfodmkahaa.PM
set_option linter.unusedVariables false

theorem ret_u32 {a b : Int} (h : a = b) : Ending.returned (.int .u32 a) = .returned (.int .u32 b) := by rw [h]
theorem ret_u64 {a b : Int} (h : a = b) : Ending.returned (.int .u64 a) = .returned (.int .u64 b) := by rw [h]
theorem ret_bool {a b : Bool} (h : a = b) : Ending.returned (.bool a) = .returned (.bool b) := by rw [h]

set_option maxHeartbeats 400000 in
theorem mask_any (n : Int) (h0 : 0 ≤ n) (h1 : n ≤ 32) (w : World) :
    Calls Try.prog 37 #[.int .i64 n] w fun e w' => e = .returned (.int .u32 (msk n)) ∧ w' = w := by
  go_enter Try.func37, Try.ntmps37
  go_wp2_with fail
  go_ret
  exact ⟨ret_u32 (msk_eq n h0 h1), rfl⟩

set_option maxHeartbeats 400000 in
theorem size_any (n : Int) (h0 : 0 ≤ n) (h1 : n ≤ 32) (w : World) :
    Calls Try.prog 45 #[.int .i64 n] w fun e w' => e = .returned (.int .u64 (psz n)) ∧ w' = w := by
  go_enter Try.func45, Try.ntmps45
  go_wp2_with fail
  go_ret
  exact ⟨ret_u64 (wrap_psz n h0 h1), rfl⟩

theorem vld_and (a n : Int) (ha : 0 ≤ a) (ha2 : a < 4294967296) (h0 : 0 ≤ n) (h1 : n ≤ 32) : (bits .andNot .u32 a (msk n) == 0) = vld a n := by
  rw [andNot_mask a n ha ha2, Bool.eq_iff_iff, vld_iff]; simp [h0, h1]
theorem vld_rem (a n : Int) (h0 : 0 ≤ n) (h1 : n ≤ 32) : (a % psz n == 0) = vld a n := by
  rw [Bool.eq_iff_iff, vld_iff]; simp [h0, h1]
theorem vld_low (a n : Int) (h : n < 0) : false = vld a n := by
  symm; rw [← Bool.not_eq_true, vld_iff]; omega
theorem vld_high (a n : Int) (h : 32 < n) : false = vld a n := by
  symm; rw [← Bool.not_eq_true, vld_iff]; omega

theorem bel1 (w : World) (o : Obj) (q : Nat) : Below w.heap.size w ((w.alloc o).drewN q) := below_drewN ((Below.refl _ _).alloc (Nat.le_refl _) _) q

set_option maxHeartbeats 400000 in
theorem valid_any (a n : Int) (ha : 0 ≤ a) (ha2 : a < 4294967296) (w : World) :
    Calls Try.prog 30 #[.agg #[.int .u32 a, .int .i64 n]] w fun e w' => e = .returned (.bool (vld a n)) ∧ Below w.heap.size w w' := by
  by_cases h0 : 0 ≤ n
  · by_cases h1 : n ≤ 32
    · go_enter Try.func30, Try.ntmps30
      go_wp2_with fail
      go_quiet ((go_at_call 37; exact Calls.quiet_of_same (mask_any _ h0 h1 _)))
      go_wp2_with fail
      go_ret
      exact ⟨ret_bool (vld_and a n ha ha2 h0 h1), bel1 _ _ _⟩
    · have hd : decide (n ≤ 32) = false := by simpa using h1
      go_enter Try.func30, Try.ntmps30
      go_wp2_with fail
      go_quiet (fail)
      go_wp2_with fail
      go_ret
      exact ⟨ret_bool (vld_high a n (by omega)), bel1 _ _ _⟩
  · have hd : decide (0 ≤ n) = false := by simpa using h0
    go_enter Try.func30, Try.ntmps30
    go_wp2_with fail
    go_quiet (fail)
    go_wp2_with fail
    go_ret
    exact ⟨ret_bool (vld_low a n (by omega)), bel1 _ _ _⟩

set_option maxHeartbeats 400000 in
theorem rvalid_any (a n : Int) (ha : 0 ≤ a) (ha2 : a < 4294967296) (w : World) :
    Calls Try.prog 32 #[.agg #[.int .u32 a, .int .i64 n]] w fun e w' => e = .returned (.bool (vld a n)) ∧ Below w.heap.size w w' := by
  by_cases h0 : 0 ≤ n
  · by_cases h1 : n ≤ 32
    · have hp := psz_pos n
      have hq := psz_le n
      have hz : (psz n == 0) = false := by simp; omega
      go_enter Try.func32, Try.ntmps32
      go_wp2_with fail
      go_quiet ((go_at_call 45; exact Calls.quiet_of_same (size_any _ h0 h1 _)))
      go_wp2_with fail
      go_ret
      exact ⟨ret_bool (vld_rem a n h0 h1), bel1 _ _ _⟩
    · have hd : decide (n ≤ 32) = false := by simpa using h1
      go_enter Try.func32, Try.ntmps32
      go_wp2_with fail
      go_quiet (fail)
      go_wp2_with fail
      go_ret
      exact ⟨ret_bool (vld_high a n (by omega)), bel1 _ _ _⟩
  · have hd : decide (0 ≤ n) = false := by simpa using h0
    go_enter Try.func32, Try.ntmps32
    go_wp2_with fail
    go_quiet (fail)
    go_wp2_with fail
    go_ret
    exact ⟨ret_bool (vld_low a n (by omega)), bel1 _ _ _⟩
end Go.Proofs.Ytibmhdfodmkahaa.Ask
