/- Two messages that tell the same: chooseInts, prefixesSame, routeSame, pvSame. -/
import Derived.Test.YtghlgkpfcpcopaaPvG
import Derived.Deep.QuietTactic
import Derived.BigQuiet
namespace Go.Proofs.Ytghlgkpfcpcopaa.Pv
open Go.ChangeShapes Go.WideShapes Go.ChangeAt Go.RowKit Go.Joins Go.Proofs.Ytghlgkpfcpcopaa.PM Go.Proofs.Ytghlgkpfcpcopaa.Ask Go.Proofs.Ytghlgkpfcpcopaa.Ge
set_option linter.unusedVariables false

theorem dn_bel (w : World) (q : Nat) : Below w.heap.size w (w.drewN q) := ⟨rfl, rfl, rfl, Nat.le_refl _, fun _ _ => rfl⟩
set_option maxRecDepth 100000 in
set_option maxHeartbeats 4000000 in
theorem ints_same (a1 : Option Addr) (c1 : Nat) (a2 : Option Addr) (c2 : Nat) (xs : List Int) (n : Nat) (hn : xs.length = n) (w : World) (h1 : Lst EI w a1 xs) (h2 : Lst EI w a2 xs) :
    Calls Try.prog 54 #[.slice a1 n c1, .slice a2 n c2] w fun e w' => e = .returned (.bool true) ∧ Below w.heap.size w w' := by
  have H1 : Hid (Lst EI w a1 xs) := h1
  have H2 : Hid (Lst EI w a2 xs) := h2
  have HN : Hid (xs.length = n) := hn
  have hsm := h1.small
  rw [hn] at hsm
  clear h1 h2 hn
  go_enter Try.func54, Try.ntmps54
  go_wp2_with fail
  go_loopw [13] (fun iv wr => ∃ i : Nat, i ≤ n ∧ iv = .int .i64 (i : Int) ∧ Below w.heap.size w wr) (fun i _ => n - (intOf i).toNat)
  case atStart => exact ⟨0, by omega, rfl, Below.refl _ _⟩
  case round =>
    obtain ⟨i, hi, rfl, hb⟩ := hrel
    have HB : Hid (Below w.heap.size w wr) := hb
    clear hb
    by_cases hlt : i < n
    · have hil : i < xs.length := by rw [HN.out]; exact hlt
      obtain ⟨b, o, rfl, hbl, c0⟩ := lstI (H1.out.bel HB.out) i hil
      obtain ⟨b', o', rfl, hbl', c0'⟩ := lstI (H2.out.bel HB.out) i hil
      obtain ⟨x, hx⟩ : ∃ x, xs[i] = x := ⟨_, rfl⟩
      rw [hx] at c0 c0'
      have hii : (i : Int) < (n : Int) := by omega
      have ii0 : (0 : Int) ≤ i := by omega
      clear hx
      go_wp2_with fail
      go_quiet (fail)
      have HB2 : Hid (Below w.heap.size w (wr.drewN nq)) := HB.out.trans ((dn_bel wr nq).mono HB.out.size)
      go_wp2_with fail
      exact ⟨⟨i + 1, by omega, by simp, HB2.out⟩, by simp [intOf]; omega⟩
    · obtain rfl : i = n := by omega
      go_wp2_with fail
      go_ret
      exact ⟨rfl, HB.out⟩
set_option maxRecDepth 100000 in
set_option maxHeartbeats 4000000 in
theorem pfxs_same (a1 : Option Addr) (c1 : Nat) (a2 : Option Addr) (c2 : Nat) (xs : List (Int × Int)) (n : Nat) (hn : xs.length = n) (w : World) (h1 : Lst E2 w a1 xs) (h2 : Lst E2 w a2 xs) :
    Calls Try.prog 29 #[.slice a1 n c1, .slice a2 n c2] w fun e w' => e = .returned (.bool true) ∧ Below w.heap.size w w' := by
  have H1 : Hid (Lst E2 w a1 xs) := h1
  have H2 : Hid (Lst E2 w a2 xs) := h2
  have HN : Hid (xs.length = n) := hn
  have hsm := h1.small
  rw [hn] at hsm
  clear h1 h2 hn
  go_enter Try.func29, Try.ntmps29
  go_wp2_with fail
  go_loopw [13] (fun iv wr => ∃ i : Nat, i ≤ n ∧ iv = .int .i64 (i : Int) ∧ Below w.heap.size w wr) (fun i _ => n - (intOf i).toNat)
  case atStart => exact ⟨0, by omega, rfl, Below.refl _ _⟩
  case round =>
    obtain ⟨i, hi, rfl, hb⟩ := hrel
    have HB : Hid (Below w.heap.size w wr) := hb
    clear hb
    by_cases hlt : i < n
    · have hil : i < xs.length := by rw [HN.out]; exact hlt
      obtain ⟨b, o, rfl, hbl, c0, d0⟩ := lst2 (H1.out.bel HB.out) i hil
      obtain ⟨b', o', rfl, hbl', c0', d0'⟩ := lst2 (H2.out.bel HB.out) i hil
      obtain ⟨⟨x, y⟩, hx⟩ : ∃ x, xs[i] = x := ⟨_, rfl⟩
      rw [hx] at c0 c0' d0 d0'
      dsimp only at c0 c0' d0 d0'
      have hii : (i : Int) < (n : Int) := by omega
      have ii0 : (0 : Int) ≤ i := by omega
      clear hx
      go_wp2_with fail
      go_quiet (fail)
      have HB2 : Hid (Below w.heap.size w (wr.drewN nq)) := HB.out.trans ((dn_bel wr nq).mono HB.out.size)
      go_wp2_with fail
      exact ⟨⟨i + 1, by omega, by simp, HB2.out⟩, by simp [intOf]; omega⟩
    · obtain rfl : i = n := by omega
      go_wp2_with fail
      go_ret
      exact ⟨rfl, HB.out⟩
end Go.Proofs.Ytghlgkpfcpcopaa.Pv
