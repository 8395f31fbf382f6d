/- trieSame: what it answers for two lists that are the same. -/
import Derived.Test.YtibmhdfodmkahaaTrU
namespace Go.Proofs.Ytibmhdfodmkahaa.Tri
open Go.ChangeShapes Go.WideShapes Go.ChangeAt Go.RowKit Go.Shelf Go.Proofs.Ytibmhdfodmkahaa.PM Go.Proofs.Ytibmhdfodmkahaa.TrM Go.Proofs.Ytibmhdfodmkahaa.Ask
set_option linter.unusedVariables false

set_option maxRecDepth 100000 in
set_option maxHeartbeats 2000000 in
theorem same_yes (va vb : Option Addr) (ca cb : Nat) (l : List (Int × Int × Int)) (few : Int) (hf : few < 0) (w : World) (h1 : Arr3 w va l) (h2 : Arr3 w vb l) :
    Calls Try.prog 10 #[.slice va l.length ca, .slice vb l.length cb, .int .i64 few] w fun e w' => e = .returned (.bool true) ∧ Below w.heap.size w w' := by
  have H1 : Hid (Arr3 w va l) := h1
  have H2 : Hid (Arr3 w vb l) := h2
  have hsm := h1.small
  clear h1 h2
  obtain ⟨L, hL⟩ : ∃ L, l.length = L := ⟨_, rfl⟩
  rw [hL] at hsm ⊢
  have HL : Hid (l.length = L) := hL
  clear hL
  have hL0 : L = 0 ∨ 0 < L := by omega
  have hcase : (L : Int) = 0 ∨ 0 < (L : Int) := by omega
  go_enter Try.func10, Try.ntmps10
  rcases hcase with hc | hc
  · obtain rfl : L = 0 := by omega
    go_wp2_with fail
    go_loopw [31] (fun i wr => i = .int .i64 0 ∧ wr = w) (fun i _ => 0)
    case atStart => exact ⟨rfl, rfl⟩
    case round =>
      obtain ⟨rfl, rfl⟩ := hrel
      go_wp2_with fail
      go_ret
      exact ⟨rfl, Below.refl _ _⟩
  · go_wp2_with fail
    go_loopw [31] (fun i wr => ∃ k q : Nat, k ≤ L ∧ i = .int .i64 k ∧ wr = w.drewN q) (fun i _ => L - (intOf i).toNat)
    case atStart => exact ⟨0, 0, by omega, rfl, rfl⟩
    case round =>
      obtain ⟨k, q, hk, rfl, rfl⟩ := hrel
      by_cases hlt : k < L
      · have hkd : k < l.length := by rw [HL.out]; exact hlt
        obtain ⟨b, o, rfl, hbl, c0, c1, c2⟩ := H1.out.cells k hkd
        obtain ⟨b2, o2, rfl, hbl2, d0, d1, d2⟩ := H2.out.cells k hkd
        obtain ⟨y, hy⟩ : ∃ y, l[k] = y := ⟨_, rfl⟩
        rw [hy] at c0 c1 c2 d0 d1 d2
        clear hy
        obtain ⟨ya, yn, yv⟩ := y
        have hkk : (k : Int) < L := by omega
        have kk0 : (0 : Int) ≤ k := by omega
        go_wp2_with fail
        go_quiet (fail)
        go_wp2_with fail
        go_roundw
        case rel => exact ⟨k + 1, q + nq, by omega, by simp, by simp⟩
        case measure => simp [intOf]; omega
      · obtain rfl : k = L := by omega
        go_wp2_with fail
        go_ret
        exact ⟨rfl, bel_q w q⟩
end Go.Proofs.Ytibmhdfodmkahaa.Tri
