/- trieSame, where few are asked; trieMore. -/
import Derived.Test.YtibmhdfodmkahaaTrAC
import Derived.Test.YtibmhdfodmkahaaGeA
import Derived.Test.YtibmhdfodmkahaaTuA
namespace Go.Proofs.Ytibmhdfodmkahaa.Tu
open Go.ChangeShapes Go.WideShapes Go.ChangeAt Go.RowKit Go.Proofs.Ytibmhdfodmkahaa.PM Go.Proofs.Ytibmhdfodmkahaa.TrM Go.Proofs.Ytibmhdfodmkahaa.Ask Go.Proofs.Ytibmhdfodmkahaa.Tri
set_option linter.unusedVariables false

/-- how many must be there, of n, where z are asked (z is not below 0) -/
theorem few_cases {L K : Nat} {z : Int} (hz : 0 ≤ z) (hK : K = min (max 1 z.toNat) L) : ((L : Int) < z ∧ (L : Int) = 0 ∧ K = L) ∨ ((L : Int) < z ∧ 0 < (L : Int) ∧ K = L) ∨ (¬ (L : Int) < z ∧ z = 0 ∧ 0 < (L : Int) ∧ K = 1) ∨ (¬ (L : Int) < z ∧ z = 0 ∧ (L : Int) = 0 ∧ K = 0) ∨ (¬ (L : Int) < z ∧ 0 < z ∧ (K : Int) = z) := by
  omega

set_option maxRecDepth 100000 in
set_option maxHeartbeats 2000000 in
theorem same_few (va vb : Option Addr) (ca cb : Nat) (l : List (Int × Int × Int)) (K : Nat) (z : Int) (hz : 0 ≤ z) (hK : K = min (max 1 z.toNat) l.length) (w : World) (h1 : Arr3 w va (l.take K)) (h2 : Arr3 w vb l) :
    Calls Try.prog 10 #[.slice va K ca, .slice vb l.length cb, .int .i64 z] w fun e w' => e = .returned (.bool true) ∧ Below w.heap.size w w' := by
  have H1 : Hid (Arr3 w va (l.take K)) := h1
  have H2 : Hid (Arr3 w vb l) := h2
  have hsm := h2.small
  clear h1 h2
  obtain ⟨L, hL⟩ : ∃ L, l.length = L := ⟨_, rfl⟩
  rw [hL] at hsm hK ⊢
  have HL : Hid (l.length = L) := hL
  have hKL : K ≤ L := by omega
  have HC := few_cases hz hK
  clear hL hK
  go_enter Try.func10, Try.ntmps10
  rcases HC with ⟨c1, c2, rfl⟩ | ⟨c1, c2, rfl⟩ | ⟨c1, rfl, c2, rfl⟩ | ⟨c1, rfl, c2, rfl⟩ | ⟨c1, c2, c3⟩
  · obtain rfl : K = 0 := by omega
    go_wp2_with fail
    go_loopw [31] (fun i wr => i = .int .i64 0 ∧ wr = w) (fun i _ => 0)
    case atStart => exact ⟨rfl, rfl⟩
    case round =>
      obtain ⟨rfl, rfl⟩ := hrel
      go_wp2_with fail
      go_ret
      exact ⟨rfl, Below.refl _ _⟩
  case inr.inr.inr.inl =>
    obtain rfl : L = 0 := by omega
    go_wp2_with fail
    go_loopw [31] (fun i wr => i = .int .i64 0 ∧ wr = w) (fun i _ => 0)
    case atStart => exact ⟨rfl, rfl⟩
    case round =>
      obtain ⟨rfl, rfl⟩ := hrel
      go_wp2_with fail
      go_ret
      exact ⟨rfl, Below.refl _ _⟩
  case inr.inl =>
    go_wp2_with fail
    go_loopw [31] (fun i wr => ∃ k q : Nat, k ≤ K ∧ i = .int .i64 k ∧ wr = w.drewN q) (fun i _ => K - (intOf i).toNat)
    case atStart => exact ⟨0, 0, by omega, rfl, rfl⟩
    case round =>
      obtain ⟨k, q, hk, rfl, rfl⟩ := hrel
      by_cases hlt : k < K
      · have hkd : k < l.length := by rw [HL.out]; omega
        have hkt : k < (l.take K).length := by rw [List.length_take]; omega
        obtain ⟨b, o, rfl, hbl, c0, c1, c2⟩ := H1.out.cells k hkt
        obtain ⟨b2, o2, rfl, hbl2, d0, d1, d2⟩ := H2.out.cells k hkd
        have hy2 : (l.take K)[k] = l[k] := List.getElem_take
        rw [hy2] at c0 c1 c2
        clear hy2
        obtain ⟨y, hy⟩ : ∃ y, l[k] = y := ⟨_, rfl⟩
        rw [hy] at c0 c1 c2 d0 d1 d2
        clear hy
        obtain ⟨ya, yn, yv⟩ := y
        have hkk : (k : Int) < K := by omega
        have kk0 : (0 : Int) ≤ k := by omega
        go_wp2_with fail
        go_quiet (fail)
        go_wp2_with fail
        go_roundw
        case rel => exact ⟨k + 1, q + nq, by omega, by simp, by simp⟩
        case measure => simp [intOf]; omega
      · obtain rfl : k = K := by omega
        go_wp2_with fail
        go_ret
        exact ⟨rfl, bel_q w q⟩
  case inr.inr.inl =>
    go_wp2_with fail
    go_loopw [31] (fun i wr => ∃ k q : Nat, k ≤ 1 ∧ i = .int .i64 k ∧ wr = w.drewN q) (fun i _ => 1 - (intOf i).toNat)
    case atStart => exact ⟨0, 0, by omega, rfl, rfl⟩
    case round =>
      obtain ⟨k, q, hk, rfl, rfl⟩ := hrel
      by_cases hlt : k < 1
      · have hkd : k < l.length := by rw [HL.out]; omega
        have hkt : k < (l.take 1).length := by rw [List.length_take]; omega
        obtain ⟨b, o, rfl, hbl, c0, c1, c2⟩ := H1.out.cells k hkt
        obtain ⟨b2, o2, rfl, hbl2, d0, d1, d2⟩ := H2.out.cells k hkd
        have hy2 : (l.take 1)[k] = l[k] := List.getElem_take
        rw [hy2] at c0 c1 c2
        clear hy2
        obtain ⟨y, hy⟩ : ∃ y, l[k] = y := ⟨_, rfl⟩
        rw [hy] at c0 c1 c2 d0 d1 d2
        clear hy
        obtain ⟨ya, yn, yv⟩ := y
        have hkk : (k : Int) < 1 := by omega
        have kk0 : (0 : Int) ≤ k := by omega
        go_wp2_with fail
        go_quiet (fail)
        go_wp2_with fail
        go_roundw
        case rel => exact ⟨k + 1, q + nq, by omega, by simp, by simp⟩
        case measure => simp [intOf]; omega
      · obtain rfl : k = 1 := by omega
        go_wp2_with fail
        go_ret
        exact ⟨rfl, bel_q w q⟩
  case inr.inr.inr.inr =>
    obtain rfl : z = (K : Int) := c3.symm
    have c4 : ¬ (K : Int) = 0 := by omega
    go_wp2_with fail
    go_loopw [31] (fun i wr => ∃ k q : Nat, k ≤ K ∧ i = .int .i64 k ∧ wr = w.drewN q) (fun i _ => K - (intOf i).toNat)
    case atStart => exact ⟨0, 0, by omega, rfl, rfl⟩
    case round =>
      obtain ⟨k, q, hk, rfl, rfl⟩ := hrel
      by_cases hlt : k < K
      · have hkd : k < l.length := by rw [HL.out]; omega
        have hkt : k < (l.take K).length := by rw [List.length_take]; omega
        obtain ⟨b, o, rfl, hbl, c0, c1, c2⟩ := H1.out.cells k hkt
        obtain ⟨b2, o2, rfl, hbl2, d0, d1, d2⟩ := H2.out.cells k hkd
        have hy2 : (l.take K)[k] = l[k] := List.getElem_take
        rw [hy2] at c0 c1 c2
        clear hy2
        obtain ⟨y, hy⟩ : ∃ y, l[k] = y := ⟨_, rfl⟩
        rw [hy] at c0 c1 c2 d0 d1 d2
        clear hy
        obtain ⟨ya, yn, yv⟩ := y
        have hkk : (k : Int) < K := by omega
        have kk0 : (0 : Int) ≤ k := by omega
        go_wp2_with fail
        go_quiet (fail)
        go_wp2_with fail
        go_roundw
        case rel => exact ⟨k + 1, q + nq, by omega, by simp, by simp⟩
        case measure => simp [intOf]; omega
      · obtain rfl : k = K := by omega
        go_wp2_with fail
        go_ret
        exact ⟨rfl, bel_q w q⟩
end Go.Proofs.Ytibmhdfodmkahaa.Tu
