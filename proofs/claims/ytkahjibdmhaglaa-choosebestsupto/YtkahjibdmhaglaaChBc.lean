/- A list of ints from outside, with its bounds. -/
import Derived.Test.YtkahjibdmhaglaaChBb
namespace Go.Proofs.Ytkahjibdmhaglaa.Ch
open Go.ChangeShapes Go.WideShapes Go.ChangeAt Go.RowKit Go.Joins Go.Deep Go.Proofs.Ytkahjibdmhaglaa.Ge
set_option linter.unusedVariables false
set_option linter.unusedSimpArgs false
variable {H : Type} {enc : TypeId × Value → H}

theorem open_ints {W : World} {a : Option Addr} {len cap : Nat} {d : DataW H} {p : List MemPlace} (h : DataW.Trod enc Try.prog W 0 (fun _ => true) true 24 (.slice a len cap) d p) : ∃ xs : List Int, xs.length = len ∧ Lst EI W a xs ∧ ∀ t ∈ xs, -9223372036854775808 ≤ t ∧ t < 9223372036854775808 := by
  obtain ⟨n, h⟩ := h
  rcases open_slice Try.underlying24 h with ⟨hc, -⟩ | ⟨ad, len', cap', m, k, D, Pl, hc, -, hl, hm, hmm, hx, hall⟩
  · simp [Value.cells] at hc
    obtain ⟨rfl, rfl, rfl⟩ := hc
    exact ⟨[], rfl, ⟨by simp, fun i hi => absurd hi (by simp)⟩, fun t ht => by cases ht⟩
  · simp [Value.cells] at hc
    obtain ⟨rfl, rfl, rfl⟩ := hc
    simp only [if_true] at hmm
    subst hmm
    rw [cells64] at hall
    have each : ∀ i, i < m → ∃ q : Int, W.cell? (ad.add (i * 1)) = some (.int .i64 q) ∧ (-9223372036854775808 ≤ q ∧ q < 9223372036854775808) := fun i hi => by
      obtain ⟨cs', g, t⟩ := hall i hi
      obtain ⟨-, hlen, hcell⟩ := World.cells?_some g
      have e0 := hcell 0 (by omega)
      rw [add_add] at e0
      obtain ⟨N0, h0, -, hb⟩ := DataW.trod_int Try.underlying3 t
      have hb2 := bounds_i64 hb
      subst h0
      exact ⟨N0, by simpa using e0, by omega, by omega⟩
    obtain ⟨q, hq⟩ := choose_lt each
    refine ⟨(List.range len).map q, by simp, ⟨?_, ?_⟩, ?_⟩
    · simp; unfold maxLen at hm; omega
    · intro i hi
      have hi' : i < len := by simpa using hi
      have g0 := (hq i (by omega)).1
      have hs : ad.spot = none := by simpa [Addr.add] using World.cell?_spot (hq 0 (by omega)).1
      obtain ⟨b, o, sp⟩ := ad
      obtain rfl : sp = none := hs
      have g0' : W.cell? ⟨b, o + i, none⟩ = some (.int .i64 (q i)) := by simpa [Addr.add_lit] using g0
      refine ⟨b, o, rfl, lt_cell g0', fun j hj => ?_⟩
      have hj2 : j < 1 := hj
      obtain rfl : j = 0 := by omega
      show W.cell? ⟨b, o + i * 1 + 0, none⟩ = _
      rw [Nat.mul_one, Nat.add_zero, g0']
      simp [EI]
    · intro t ht
      obtain ⟨i, hi, rfl⟩ := List.mem_map.1 ht
      exact (hq i (by have := List.mem_range.1 hi; omega)).2
end Go.Proofs.Ytkahjibdmhaglaa.Ch
