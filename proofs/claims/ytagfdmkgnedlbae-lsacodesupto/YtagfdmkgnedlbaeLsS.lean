/- An announcement that comes in by value, opened: how many links and stubs it has, too. -/
import Derived.Test.YtagfdmkgnedlbaeLsR
import Derived.Test.YtagfdmkgnedlbaeLsH
import Derived.Test.YtagfdmkgnedlbaeRows
import Derived.Lib.SmallJoins
import Derived.Deep.Slices
import Derived.Deep.Strs
import Derived.Carry
namespace Go.Proofs.Ytagfdmkgnedlbae.Ls
open Go.ChangeShapes Go.WideShapes Go.ChangeAt Go.RowKit Go.Joins Go.Deep Go.Proofs.Ytagfdmkgnedlbae.PM Go.Proofs.Ytagfdmkgnedlbae.Ask
set_option linter.unusedVariables false

section
variable {H : Type}
theorem weighs (d : DataW H) : 1 ≤ Rows.uptoBulk d := by
  cases d with
  | lit l => cases l <;> simp [Rows.uptoBulk]
  | _ => simp [Rows.uptoBulk]
theorem many (l : List (DataW H)) : l.length ≤ Rows.uptoBulkAll l := by
  induction l with
  | nil => simp
  | cons x r ih => have := weighs x; simp only [Rows.uptoBulkAll, List.length_cons]; omega
theorem bulk_mem {l : List (DataW H)} {z : DataW H} (h : z ∈ l) : Rows.uptoBulk z ≤ Rows.uptoBulkAll l := by
  induction l with
  | nil => cases h
  | cons x r ih =>
    simp only [Rows.uptoBulkAll]
    rcases List.mem_cons.1 h with rfl | h
    · omega
    · have := ih h; omega
end
section
variable {H : Type} {enc : TypeId × Value → H}

set_option maxRecDepth 100000 in
theorem open_links2 {W : World} {n : Nat} {c : Value} {x : DataW H × List MemPlace} (h : DataW.trod enc Try.prog W 0 (fun _ => true) true n 25 [c] = some x) : ∃ (a : Option Addr) (xs : List (Int × Int × Int)) (cap : Nat), c = .slice a xs.length cap ∧ L3 .i64 W a xs ∧ (∀ d ∈ xs, In64 d.2.1) ∧ xs.length ≤ Rows.uptoBulk x.1 ∧ (a = none → xs.length = 0 ∧ cap = 0) := by
  rcases open_slice Try.underlying25 h with ⟨hc, -⟩ | ⟨ad, len, cap, m, k, D, Pl, hc, -, hl, hm, hmm, hx, hall⟩
  · simp at hc
    exact ⟨none, [], 0, hc, ⟨by simp, fun i hi => absurd hi (by simp)⟩, by simp, by simp, fun _ => ⟨rfl, rfl⟩⟩
  · simp at hc
    simp only [if_true] at hmm
    subst hmm
    have hblk : len ≤ Rows.uptoBulk x.1 := by
      rw [hx]
      simp only [Rows.uptoBulk]
      have h1 := many ((List.range len).map D)
      simp only [List.length_map, List.length_range] at h1
      omega
    rw [cellsLk] at hall
    have each : ∀ i, i < m → ∃ q : Int × Int × Int, In64 q.2.1 ∧ W.cell? (ad.add (i * 3)) = some (.int .i64 q.1) ∧ W.cell? (ad.add (i * 3 + 1)) = some (.int .i64 q.2.1) ∧ W.cell? (ad.add (i * 3 + 2)) = some (.int .i64 q.2.2) := fun i hi => by
      obtain ⟨cs', g, t⟩ := hall i hi
      obtain ⟨y0, y1, y2, n1, -, hlen, t0, t1, t2⟩ := trod_struct3 Try.underlying54 t
      rw [cellsLk] at hlen
      obtain ⟨-, -, hcell⟩ := World.cells?_some g
      have e0 := hcell 0 (by omega)
      have e1 := hcell 1 (by omega)
      have e2 := hcell 2 (by omega)
      rw [add_add] at e0 e1 e2
      match cs', hlen with
      | [c0, c1, c2], _ =>
        simp [cells64] at t0 t1 t2
        obtain ⟨N0, h0, -, -⟩ := DataW.trod_int Try.underlying3 t0
        obtain ⟨N1, h1, -, hw1⟩ := DataW.trod_int Try.underlying3 t1
        obtain ⟨N2, h2, -, -⟩ := DataW.trod_int Try.underlying3 t2
        simp at h0 h1 h2
        subst h0 h1 h2
        exact ⟨(N0, N1, N2), bounds_i64 hw1, by simpa using e0, by simpa using e1, by simpa using e2⟩
    obtain ⟨q, hq⟩ := choose_lt each
    refine ⟨some ad, (List.range len).map q, m, by simpa using hc, ⟨?_, ?_⟩, ?_, by simpa using hblk, fun e => by cases e⟩
    · simp; unfold maxLen at hm; omega
    · intro i hi
      have hi' : i < len := by simpa using hi
      obtain ⟨-, g0, g1, g2⟩ := hq i (by omega)
      have hs : ad.spot = none := by simpa [Addr.add] using World.cell?_spot (hq 0 (by omega)).2.1
      obtain ⟨b, o, sp⟩ := ad
      obtain rfl : sp = none := hs
      have g0' : W.cell? ⟨b, o + i * 3, none⟩ = some (.int .i64 (q i).1) := by simpa [Addr.add_lit] using g0
      have g1' : W.cell? ⟨b, o + i * 3 + 1, none⟩ = some (.int .i64 (q i).2.1) := by simpa [Addr.add_lit, Nat.add_assoc] using g1
      have g2' : W.cell? ⟨b, o + i * 3 + 2, none⟩ = some (.int .i64 (q i).2.2) := by simpa [Addr.add_lit, Nat.add_assoc] using g2
      refine ⟨b, o, rfl, lt_cell g0', ?_, ?_, ?_⟩
      · rw [g0']; simp
      · rw [g1']; simp
      · rw [g2']; simp
    · intro d hd
      obtain ⟨i, hi, rfl⟩ := List.mem_map.1 hd
      exact (hq i (by have := List.mem_range.1 hi; omega)).1

set_option maxRecDepth 100000 in
theorem open_stubs2 {W : World} {n : Nat} {c : Value} {x : DataW H × List MemPlace} (h : DataW.trod enc Try.prog W 0 (fun _ => true) true n 26 [c] = some x) : ∃ (a : Option Addr) (xs : List (Int × Int × Int)) (cap : Nat), c = .slice a xs.length cap ∧ L3 .u32 W a xs ∧ (∀ d ∈ xs, In32 d.1) ∧ xs.length ≤ Rows.uptoBulk x.1 ∧ (a = none → xs.length = 0 ∧ cap = 0) := by
  rcases open_slice Try.underlying26 h with ⟨hc, -⟩ | ⟨ad, len, cap, m, k, D, Pl, hc, -, hl, hm, hmm, hx, hall⟩
  · simp at hc
    exact ⟨none, [], 0, hc, ⟨by simp, fun i hi => absurd hi (by simp)⟩, by simp, by simp, fun _ => ⟨rfl, rfl⟩⟩
  · simp at hc
    simp only [if_true] at hmm
    subst hmm
    have hblk : len ≤ Rows.uptoBulk x.1 := by
      rw [hx]
      simp only [Rows.uptoBulk]
      have h1 := many ((List.range len).map D)
      simp only [List.length_map, List.length_range] at h1
      omega
    rw [cellsSt] at hall
    have each : ∀ i, i < m → ∃ q : Int × Int × Int, In32 q.1 ∧ W.cell? (ad.add (i * 3)) = some (.int .u32 q.1) ∧ W.cell? (ad.add (i * 3 + 1)) = some (.int .i64 q.2.1) ∧ W.cell? (ad.add (i * 3 + 2)) = some (.int .i64 q.2.2) := fun i hi => by
      obtain ⟨cs', g, t⟩ := hall i hi
      obtain ⟨y0, y1, n1, -, hlen, t0, t1⟩ := trod_struct2 Try.underlying56 t
      rw [cellsSt] at hlen
      obtain ⟨-, -, hcell⟩ := World.cells?_some g
      have e0 := hcell 0 (by omega)
      have e1 := hcell 1 (by omega)
      have e2 := hcell 2 (by omega)
      rw [add_add] at e0 e1 e2
      match cs', hlen with
      | [c0, c1, c2], _ =>
        obtain ⟨z0, z1, n2, -, -, u0, u1⟩ := trod_struct2 Try.underlying24 t0
        simp [cellsPf, cells64, cells32] at u0 u1 t1
        obtain ⟨N0, h0, -, hw⟩ := DataW.trod_int Try.underlying22 u0
        obtain ⟨N1, h1, -, -⟩ := DataW.trod_int Try.underlying3 u1
        obtain ⟨N2, h2, -, -⟩ := DataW.trod_int Try.underlying3 t1
        simp at h0 h1 h2
        subst h0 h1 h2
        have hb := bounds_u32 hw
        exact ⟨(N0, N1, N2), ⟨hb.1, by have := hb.2; show N0 < _; omega⟩, by simpa using e0, by simpa using e1, by simpa using e2⟩
    obtain ⟨q, hq⟩ := choose_lt each
    refine ⟨some ad, (List.range len).map q, m, by simpa using hc, ⟨?_, ?_⟩, ?_, by simpa using hblk, fun e => by cases e⟩
    · simp; unfold maxLen at hm; omega
    · intro i hi
      have hi' : i < len := by simpa using hi
      obtain ⟨-, g0, g1, g2⟩ := hq i (by omega)
      have hs : ad.spot = none := by simpa [Addr.add] using World.cell?_spot (hq 0 (by omega)).2.1
      obtain ⟨b, o, sp⟩ := ad
      obtain rfl : sp = none := hs
      have g0' : W.cell? ⟨b, o + i * 3, none⟩ = some (.int .u32 (q i).1) := by simpa [Addr.add_lit] using g0
      have g1' : W.cell? ⟨b, o + i * 3 + 1, none⟩ = some (.int .i64 (q i).2.1) := by simpa [Addr.add_lit, Nat.add_assoc] using g1
      have g2' : W.cell? ⟨b, o + i * 3 + 2, none⟩ = some (.int .i64 (q i).2.2) := by simpa [Addr.add_lit, Nat.add_assoc] using g2
      refine ⟨b, o, rfl, lt_cell g0', ?_, ?_, ?_⟩
      · rw [g0']; simp
      · rw [g1']; simp
      · rw [g2']; simp
    · intro d hd
      obtain ⟨i, hi, rfl⟩ := List.mem_map.1 hd
      exact (hq i (by have := List.mem_range.1 hi; omega)).1

set_option maxRecDepth 100000 in
set_option maxHeartbeats 1000000 in
theorem open_lsa2 {W : World} {r : Reach} {b0 : Nat} {v : Value} {d : DataW H} {p : List MemPlace} (hv : Value.okWide Try.prog W r b0 28 v) (h : DataW.Trod enc Try.prog W 0 (fun _ => true) true 28 v d p) : ∃ (x : Lsa) (la : Option Addr) (lc : Nat) (sa : Option Addr) (sc : Nat), v = lsaV x la lc sa sc ∧ LsOk W x la sa ∧ (la = none → x.links.length = 0 ∧ lc = 0) ∧ (sa = none → x.stubs.length = 0 ∧ sc = 0) ∧ (x.links.length ≤ Rows.uptoBulk d ∧ x.stubs.length ≤ Rows.uptoBulk d) ∧ ∀ e ∈ x.links, In64 e.2.1 := by
  obtain ⟨cs, rfl, hsz⟩ := okWide_struct Try.underlying28 hv
  obtain ⟨c0, c1, c2, c3, c4, c5, c6, c7, c8, c9, c10, rfl⟩ := array11 (hsz.trans cells28)
  obtain ⟨fuel, h⟩ := h
  obtain ⟨xs, n, -, hxd, hl, hlen, hf⟩ := DataW.trod_struct Try.underlying28 h
  have hlen' : xs.length = 10 := hlen
  have at_ : ∀ i, i < 10 → ∃ y, xs[i]? = some y := fun i hi => ⟨xs[i]'(by omega), List.getElem?_eq_getElem (by omega)⟩
  obtain ⟨y0, e0⟩ := at_ 0 (by decide)
  obtain ⟨y1, e1⟩ := at_ 1 (by decide)
  obtain ⟨y2, e2⟩ := at_ 2 (by decide)
  obtain ⟨y3, e3⟩ := at_ 3 (by decide)
  obtain ⟨y4, e4⟩ := at_ 4 (by decide)
  obtain ⟨y5, e5⟩ := at_ 5 (by decide)
  obtain ⟨y6, e6⟩ := at_ 6 (by decide)
  obtain ⟨y7, e7⟩ := at_ 7 (by decide)
  obtain ⟨y8, e8⟩ := at_ 8 (by decide)
  obtain ⟨y9, e9⟩ := at_ 9 (by decide)
  have g0 := (hf 0 _ rfl).trans e0
  have g1 := (hf 1 _ rfl).trans e1
  have g2 := (hf 2 _ rfl).trans e2
  have g3 := (hf 3 _ rfl).trans e3
  have g4 := (hf 4 _ rfl).trans e4
  have g5 := (hf 5 _ rfl).trans e5
  have g6 := (hf 6 _ rfl).trans e6
  have g7 := (hf 7 _ rfl).trans e7
  have g8 := (hf 8 _ rfl).trans e8
  have g9 := (hf 9 _ rfl).trans e9
  simp [Value.cells, cells64, cellsPf, cellsSL, cellsSS] at g0 g1 g2 g3 g4 g5 g6 g7 g8 g9
  obtain ⟨N0, h0, -, -⟩ := DataW.trod_int Try.underlying3 g0
  obtain ⟨N1, h1, -, -⟩ := DataW.trod_int Try.underlying3 g1
  obtain ⟨N2, h2, -, -⟩ := DataW.trod_int Try.underlying3 g2
  obtain ⟨z0, z1, n2, -, -, u0, u1⟩ := trod_struct2 Try.underlying24 g3
  simp [cells64, cells32] at u0 u1
  obtain ⟨N3, h3, -, hw⟩ := DataW.trod_int Try.underlying22 u0
  obtain ⟨N4, h4, -, -⟩ := DataW.trod_int Try.underlying3 u1
  obtain ⟨N5, h5, -, -⟩ := DataW.trod_int Try.underlying3 g4
  obtain ⟨N6, h6, -, -⟩ := DataW.trod_int Try.underlying3 g5
  obtain ⟨la, links, lc, rfl, hlk, h64, hbl, hnl⟩ := open_links2 g6
  obtain ⟨sa, stubs, sc, rfl, hst, hs32, hbs, hns⟩ := open_stubs2 g7
  obtain ⟨N9, h9, -, -⟩ := DataW.trod_int Try.underlying3 g8
  obtain ⟨N10, h10, -, -⟩ := DataW.trod_int Try.underlying3 g9
  simp at h0 h1 h2 h3 h4 h5 h6 h9 h10
  subst h0 h1 h2 h3 h4 h5 h6 h9 h10
  have hb := bounds_u32 hw
  have hmem : ∀ (i : Nat) (y : DataW H × List MemPlace), xs[i]? = some y → Rows.uptoBulk y.1 ≤ Rows.uptoBulk d := fun i y hy => by
    have hd : d = .agg (xs.map (·.1)) := congrArg Prod.fst hxd
    rw [hd]
    simp only [Rows.uptoBulk]
    have := bulk_mem (l := xs.map (·.1)) (z := y.1) (List.mem_map.2 ⟨y, List.mem_of_getElem? hy, rfl⟩)
    omega
  have b6 := hmem 6 y6 e6
  have b7 := hmem 7 y7 e7
  exact ⟨⟨N0, N1, N2, N3, N4, N5, N6, N9, N10, links, stubs⟩, la, lc, sa, sc, rfl, ⟨hlk, hst, ⟨hb.1, by have := hb.2; show N3 < _; omega⟩, hs32⟩, hnl, hns, ⟨Nat.le_trans hbl b6, Nat.le_trans hbs b7⟩, h64⟩
end
end Go.Proofs.Ytagfdmkgnedlbae.Ls
