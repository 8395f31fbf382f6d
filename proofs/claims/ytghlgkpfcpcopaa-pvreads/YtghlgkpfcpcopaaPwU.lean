/- Bytes that come in, opened. -/
import Derived.Test.YtghlgkpfcpcopaaPvRd
namespace Go.Proofs.Ytghlgkpfcpcopaa.Pv
open Go.ChangeShapes Go.WideShapes Go.ChangeAt Go.RowKit Go.Joins Go.Deep Go.Proofs.Ytghlgkpfcpcopaa.PM Go.Proofs.Ytghlgkpfcpcopaa.Ask Go.Proofs.Ytghlgkpfcpcopaa.Ge
set_option linter.unusedVariables false

theorem cells8 : Try.prog.cellsOf 5 = 1 := by kernel_rfl
section
variable {H : Type} {enc : TypeId × Value → H}
theorem open_by {W : World} {a : Option Addr} {len cap : Nat} {d : DataW H} {p : List MemPlace} (h : DataW.Trod enc Try.prog W 0 (fun _ => true) true 22 (.slice a len cap) d p) : ∃ bs : List Nat, bs.length = len ∧ len ≤ cap ∧ Lst E8 W a bs ∧ (∀ d ∈ bs, d < 256) ∧ (a = none → len = 0 ∧ cap = 0) := by
  obtain ⟨n, h⟩ := h
  rcases open_slice Try.underlying22 h with ⟨hc, -⟩ | ⟨ad, len', cap', m, k, D, Pl, hc, -, hl, hm, hmm, hx, hall⟩
  · simp [Value.cells] at hc
    obtain ⟨rfl, rfl, rfl⟩ := hc
    exact ⟨[], rfl, Nat.le_refl _, ⟨by simp, fun i hi => absurd hi (by simp)⟩, (fun d hd => by cases hd), fun _ => ⟨rfl, rfl⟩⟩
  · simp [Value.cells] at hc
    obtain ⟨rfl, rfl, rfl⟩ := hc
    simp only [if_true] at hmm
    subst hmm
    rw [cells8] at hall
    have each : ∀ i, i < m → ∃ q : Nat, q < 256 ∧ W.cell? (ad.add i) = some (.int .u8 (q : Int)) := fun i hi => by
      obtain ⟨cs', g, t⟩ := hall i hi
      obtain ⟨-, hlen, hcell⟩ := World.cells?_some g
      have e0 := hcell 0 (by omega)
      rw [add_add] at e0
      match cs', hlen with
      | [c0], _ =>
        obtain ⟨N0, h0, -, hw⟩ := DataW.trod_int Try.underlying5 t
        simp at h0
        subst h0
        have hb := bounds_u8 hw
        refine ⟨N0.toNat, by omega, ?_⟩
        rw [Int.toNat_of_nonneg hb.1]
        simpa using e0
    obtain ⟨q, hq⟩ := choose_lt each
    refine ⟨(List.range len).map q, by simp, hl, ⟨?_, ?_⟩, ?_, fun e => by cases e⟩
    · simp; unfold maxLen at hm; omega
    · intro i hi
      have hi' : i < len := by simpa using hi
      obtain ⟨-, g0⟩ := hq i (by omega)
      have hs : ad.spot = none := by simpa [Addr.add] using World.cell?_spot (hq 0 (by omega)).2
      obtain ⟨b, o, sp⟩ := ad
      obtain rfl : sp = none := hs
      have g0' : W.cell? ⟨b, o + i, none⟩ = some (.int .u8 (q i : Int)) := by simpa [Addr.add_lit] using g0
      refine ⟨b, o, rfl, lt_cell g0', fun j hj => ?_⟩
      obtain rfl : j = 0 := by have : j < 1 := hj; omega
      show W.cell? ⟨b, o + i * 1 + 0, none⟩ = _
      rw [Nat.mul_one, Nat.add_zero, g0']
      simp [E8]
    · intro d hd
      obtain ⟨i, hi, rfl⟩ := List.mem_map.1 hd
      exact (hq i (by have := List.mem_range.1 hi; omega)).1
end
end Go.Proofs.Ytghlgkpfcpcopaa.Pv
