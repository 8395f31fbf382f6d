/- Edges and ints that come in, opened. Edges that come in, with what a nil one is. -/
import Derived.Test.YthhdpfgepjmgkaaDkL
import Derived.Test.YthhdpfgepjmgkaaRows
import Derived.Lib.SmallJoins
import Derived.Deep.Slices
import Derived.Deep.Strs
import Derived.Carry
namespace Go.Proofs.Ythhdpfgepjmgkaa.Dj
open Go.ChangeShapes Go.WideShapes Go.ChangeAt Go.RowKit Go.Joins Go.Deep Go.Proofs.Ythhdpfgepjmgkaa.Ge
set_option linter.unusedVariables false
set_option linter.unusedSimpArgs false

theorem cellsEd : Try.prog.cellsOf 26 = 4 := by kernel_rfl
theorem cells64 : Try.prog.cellsOf 3 = 1 := by kernel_rfl
section
variable {H : Type} {enc : TypeId × Value → H}
theorem lt_cell {W : World} {b o : Nat} {v : Value} (h : W.cell? ⟨b, o, none⟩ = some v) : b < W.heap.size := World.block_lt_of_cell? W _ h
theorem one_le (d : DataW H) : 1 ≤ Rows.uptoBulk d := by
  cases d with
  | lit l => cases l <;> simp [Rows.uptoBulk]
  | nil => simp [Rows.uptoBulk]
  | ptr d => simp [Rows.uptoBulk]
  | slice elems spare => simp [Rows.uptoBulk]
  | agg parts => simp [Rows.uptoBulk]
  | iface t d => simp [Rows.uptoBulk]
  | map entries => simp [Rows.uptoBulk]
  | held h => simp [Rows.uptoBulk]
theorem many (l : List (DataW H)) : l.length ≤ Rows.uptoBulkAll l := by
  induction l with
  | nil => simp [Rows.uptoBulkAll]
  | cons x r ih => have := one_le x; simp only [Rows.uptoBulkAll, List.length_cons]; omega
set_option maxRecDepth 100000 in
theorem open_iz {W : World} {a : Option Addr} {len cap : Nat} {d : DataW H} {p : List MemPlace} (h : DataW.Trod enc Try.prog W 0 (fun _ => true) true 30 (.slice a len cap) d p) : ∃ xs : List Int, xs.length = len ∧ Lst EI W a xs ∧ len ≤ Rows.uptoBulk d := by
  obtain ⟨n, h⟩ := h
  rcases open_slice Try.underlying30 h with ⟨hc, -⟩ | ⟨ad, len', cap', m, k, D, Pl, hc, -, hl, hm, hmm, hx, hall⟩
  · simp [Value.cells] at hc
    obtain ⟨rfl, rfl, rfl⟩ := hc
    exact ⟨[], rfl, ⟨by simp, fun i hi => absurd hi (by simp)⟩, by simp⟩
  · simp [Value.cells] at hc
    obtain ⟨rfl, rfl, rfl⟩ := hc
    simp only [if_true] at hmm
    subst hmm
    have hblk : len ≤ Rows.uptoBulk d := by
      have hd : d = _ := congrArg Prod.fst hx
      rw [hd]
      simp only [Rows.uptoBulk]
      have h1 := many ((List.range len).map D)
      simp only [List.length_map, List.length_range] at h1
      omega
    rw [cells64] at hall
    have each : ∀ i, i < m → ∃ q : Int, W.cell? (ad.add (i * 1)) = some (.int .i64 q) := fun i hi => by
      obtain ⟨cs', g, t⟩ := hall i hi
      obtain ⟨-, hlen, hcell⟩ := World.cells?_some g
      have e0 := hcell 0 (by omega)
      rw [Addr.add_add] at e0
      obtain ⟨N0, h0, -, -⟩ := DataW.trod_int Try.underlying3 t
      subst h0
      exact ⟨N0, by simpa using e0⟩
    obtain ⟨q, hq⟩ := choose_lt each
    refine ⟨(List.range len).map q, by simp, ⟨?_, ?_⟩, hblk⟩
    · simp; unfold maxLen at hm; omega
    · intro i hi
      have hi' : i < len := by simpa using hi
      have g0 := hq i (by omega)
      have hs : ad.spot = none := by simpa [Addr.add] using World.cell?_spot (hq 0 (by omega))
      obtain ⟨b, o, sp⟩ := ad
      obtain rfl : sp = none := hs
      rw [Addr.add_lit] at g0
      rw [show ((List.range len).map q)[i] = q i by simp]
      refine ⟨b, o, rfl, World.block_lt_of_cell? W _ g0, fun j hj => ?_⟩
      have hj1 : j < 1 := hj
      match j, hj1 with
      | 0, _ => exact g0
set_option maxRecDepth 100000 in
set_option maxHeartbeats 2000000 in
theorem open_edC {W : World} {fuel : Nat} {c0 c1 c2 c3 : Value} {x : DataW H × List MemPlace} (h : DataW.trod enc Try.prog W 0 (fun _ => true) true fuel 26 [c0, c1, c2, c3] = some x) : ∃ q : Ed, [c0, c1, c2, c3] = edL q := by
  obtain ⟨xs, n, -, HXD, hl, hlen, hf⟩ := DataW.trod_struct Try.underlying26 h
  have hlen' : xs.length = 4 := hlen
  have at_ : ∀ i, i < 4 → ∃ y, xs[i]? = some y := fun i hi => ⟨xs[i]'(by omega), List.getElem?_eq_getElem (by omega)⟩
  obtain ⟨y0, e0⟩ := at_ 0 (by decide)
  obtain ⟨y1, e1⟩ := at_ 1 (by decide)
  obtain ⟨y2, e2⟩ := at_ 2 (by decide)
  obtain ⟨y3, e3⟩ := at_ 3 (by decide)
  have g0 := (hf 0 _ rfl).trans e0
  have g1 := (hf 1 _ rfl).trans e1
  have g2 := (hf 2 _ rfl).trans e2
  have g3 := (hf 3 _ rfl).trans e3
  simp [cells64] at g0 g1 g2 g3
  obtain ⟨N0, h0, -, -⟩ := DataW.trod_int Try.underlying3 g0
  obtain ⟨N1, h1, -, -⟩ := DataW.trod_int Try.underlying3 g1
  obtain ⟨N2, h2, -, -⟩ := DataW.trod_int Try.underlying3 g2
  obtain ⟨N3, h3, -, -⟩ := DataW.trod_int Try.underlying3 g3
  simp at h0 h1 h2 h3
  subst h0 h1 h2 h3
  exact ⟨⟨N0, N1, N2, N3⟩, rfl⟩
set_option maxRecDepth 100000 in
theorem open_eds {W : World} {a : Option Addr} {len cap : Nat} {d : DataW H} {p : List MemPlace} (h : DataW.Trod enc Try.prog W 0 (fun _ => true) true 22 (.slice a len cap) d p) : ∃ xs : List Ed, xs.length = len ∧ Lst EE W a xs ∧ len ≤ Rows.uptoBulk d := by
  obtain ⟨n, h⟩ := h
  rcases open_slice Try.underlying22 h with ⟨hc, -⟩ | ⟨ad, len', cap', m, k, D, Pl, hc, -, hl, hm, hmm, hx, hall⟩
  · simp [Value.cells] at hc
    obtain ⟨rfl, rfl, rfl⟩ := hc
    exact ⟨[], rfl, ⟨by simp, fun i hi => absurd hi (by simp)⟩, by simp⟩
  · simp [Value.cells] at hc
    obtain ⟨rfl, rfl, rfl⟩ := hc
    simp only [if_true] at hmm
    subst hmm
    have hblk : len ≤ Rows.uptoBulk d := by
      have hd : d = _ := congrArg Prod.fst hx
      rw [hd]
      simp only [Rows.uptoBulk]
      have h1 := many ((List.range len).map D)
      simp only [List.length_map, List.length_range] at h1
      omega
    rw [cellsEd] at hall
    have each : ∀ i, i < m → ∃ q : Ed, ∀ j v, (edL q)[j]? = some v → W.cell? (ad.add (i * 4 + j)) = some v := fun i hi => by
      obtain ⟨cs', g, t⟩ := hall i hi
      obtain ⟨-, hlen, hcell⟩ := World.cells?_some g
      match cs', hlen with
      | [c0, c1, c2, c3], _ =>
        obtain ⟨q, he⟩ := open_edC t
        refine ⟨q, fun j v hj => ?_⟩
        have hjl : j < 4 := (List.getElem?_eq_some_iff.1 hj).1
        have e0 := hcell j hjl
        rw [Addr.add_add] at e0
        rw [e0, he]
        exact hj
    haveI : Inhabited Ed := ⟨⟨0, 0, 0, 0⟩⟩
    obtain ⟨q, hq⟩ := choose_lt each
    refine ⟨(List.range len).map q, by simp, ⟨?_, ?_⟩, hblk⟩
    · simp; unfold maxLen at hm; omega
    · intro i hi
      have hi' : i < len := by simpa using hi
      have hs : ad.spot = none := by simpa [Addr.add] using World.cell?_spot (hq 0 (by omega) 0 _ rfl)
      obtain ⟨b, o, sp⟩ := ad
      obtain rfl : sp = none := hs
      have hc2 := hq i (by omega)
      have cc : ∀ j v, (edL (q i))[j]? = some v → W.cell? ⟨b, o + i * 4 + j, none⟩ = some v := fun j v hj => by
        have := hc2 j v hj
        rw [Addr.add_lit] at this
        rw [Nat.add_assoc]
        exact this
      refine ⟨b, o, rfl, lt_cell (cc 0 _ rfl), fun j hj => ?_⟩
      have hj5 : j < (edL (q i)).length := hj
      have e5 : ((List.range len).map q)[i] = q i := by simp
      rw [e5]
      show W.cell? ⟨b, o + i * 4 + j, none⟩ = (edL (q i))[j]?
      rw [List.getElem?_eq_getElem hj5]
      exact cc j _ (List.getElem?_eq_getElem hj5)
end
end Go.Proofs.Ythhdpfgepjmgkaa.Dj
namespace Go.Proofs.Ythhdpfgepjmgkaa.Dj
open Go.ChangeShapes Go.WideShapes Go.ChangeAt Go.RowKit Go.Joins Go.Deep Go.Proofs.Ythhdpfgepjmgkaa.Ge
set_option linter.unusedVariables false
set_option linter.unusedSimpArgs false

set_option maxRecDepth 100000 in
theorem open_edz {H : Type} {enc : TypeId × Value → H} {W : World} {a : Option Addr} {len cap : Nat} {d : DataW H} {p : List MemPlace} (h : DataW.Trod enc Try.prog W 0 (fun _ => true) true 22 (.slice a len cap) d p) : ∃ xs : List Ed, xs.length = len ∧ Lst EE W a xs ∧ len ≤ Rows.uptoBulk d ∧ (a = none → len = 0 ∧ cap = 0) := by
  obtain ⟨xs, h1, h2, h3⟩ := open_eds h
  refine ⟨xs, h1, h2, h3, fun ha => ?_⟩
  obtain ⟨n, h⟩ := h
  rcases open_slice Try.underlying22 h with ⟨hc, -⟩ | ⟨ad, len', cap', m, k, D, Pl, hc, -⟩
  · simp [Value.cells] at hc
    obtain ⟨rfl, rfl, rfl⟩ := hc
    exact ⟨rfl, rfl⟩
  · simp [Value.cells] at hc
    obtain ⟨rfl, rfl, rfl⟩ := hc
    cases ha
end Go.Proofs.Ythhdpfgepjmgkaa.Dj
