/- The document's number of bytes. -/
import Derived.Test.YtghlgkpfcpcopaaPwC
import Derived.Test.YtghlgkpfcpcopaaPwR
namespace Go.Proofs.Ytghlgkpfcpcopaa.Pv
open Go.ChangeShapes Go.WideShapes Go.ChangeAt Go.RowKit Go.Joins Go.Proofs.Ytghlgkpfcpcopaa.PM Go.Proofs.Ytghlgkpfcpcopaa.Ask Go.Proofs.Ytghlgkpfcpcopaa.Ge
set_option linter.unusedVariables false

set_option maxRecDepth 100000 in
set_option maxHeartbeats 4000000 in
theorem dnum_any (a : Option Addr) (n c : Nat) (xs : List Nat) (w : World) (h : Lst E8 w a xs) (hn : xs.length = n) (hu : ∀ d ∈ xs, d < 256) (h4 : n ≤ 4) :
    Calls Try.prog 25 #[.slice a n c] w fun e w' => e = .returned (.int .i64 (num xs : Int)) ∧ w' = w := by
  have H : Hid (Lst E8 w a xs) := h
  have HN : Hid (xs.length = n) := hn
  have HU : Hid (∀ d ∈ xs, d < 256) := hu
  clear h hn hu
  go_enter Try.func25, Try.ntmps25
  go_wp2_with fail
  go_loopw [8, 3] (fun iv nv wr => ∃ i : Nat, i ≤ n ∧ iv = .int .i64 (i : Int) ∧ nv = .int .i64 (num (xs.take i) : Int) ∧ wr = w) (fun i _ _ => n - (intOf i).toNat)
  case atStart => exact ⟨0, by omega, rfl, rfl, rfl⟩
  case round =>
    obtain ⟨i, hi, rfl, rfl, rfl⟩ := hrel
    by_cases hlt : i < n
    · have hil : i < xs.length := by rw [HN.out]; exact hlt
      obtain ⟨b, o, rfl, hbl, c0⟩ := lst8 H.out i hil
      obtain ⟨x, hx⟩ : ∃ x, xs[i] = x := ⟨_, rfl⟩
      have hx8 : x < 256 := by rw [← hx]; exact HU.out _ (List.getElem_mem hil)
      have hnx := num_take xs i hil
      rw [hx] at c0 hnx
      have hlt2 := num_lt HU.out i (by omega)
      have h3 : 256 ^ i ≤ 256 ^ 3 := Nat.pow_le_pow_right (by omega) (by omega)
      have h16 : 256 ^ 3 = 16777216 := by decide
      obtain ⟨y, hy⟩ : ∃ y, num (xs.take i) = y := ⟨_, rfl⟩
      rw [hy] at hnx hlt2 ⊢
      have hy3 : y < 16777216 := by omega
      obtain ⟨z, hz⟩ : ∃ z, num (xs.take (i + 1)) = z := ⟨_, rfl⟩
      have HZ : Hid (num (xs.take (i + 1)) = z) := hz
      rw [hz] at hnx
      have HNX : Hid (z = y * 256 + x) := hnx
      have hm : IntKind.i64.wrap ((y : Int) * 256) = ((y * 256 : Nat) : Int) := by rw [IntWalk.i64_in _ (by omega)]; omega
      have ha : IntKind.i64.wrap (((y * 256 : Nat) : Int) + (x : Int)) = (z : Int) := by rw [IntWalk.i64_in _ (by omega)]; omega
      have hw8 : IntKind.i64.wrap (x : Int) = (x : Int) := by rw [IntWalk.i64_in _ (by omega)]
      have hii : (i : Int) < (n : Int) := by omega
      have ii0 : (0 : Int) ≤ i := by omega
      clear hx hy hz hnx hlt2 h3 h16
      go_wp2_with fail
      exact ⟨⟨i + 1, by omega, by simp, by rw [HZ.out, HNX.out]; simp, trivial⟩, by simp [intOf]; omega⟩
    · obtain rfl : i = n := by omega
      have ht : xs.take i = xs := List.take_of_length_le (by rw [HN.out]; exact Nat.le_refl _)
      rw [ht]
      go_wp2_with fail
      go_ret
      exact ⟨rfl, rfl⟩
end Go.Proofs.Ytghlgkpfcpcopaa.Pv
