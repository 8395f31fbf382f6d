/- A message that comes in by value, opened. Two numbers that come in by value, opened. A list of messages that comes in, opened. -/
import Derived.Test.YtanboekdfdafmaaPvG
import Derived.Test.YtanboekdfdafmaaRows
import Derived.Lib.SmallJoins
import Derived.Deep.Slices
import Derived.Deep.Strs
import Derived.Carry
import Derived.OpenShut
import Derived.Test.YtanboekdfdafmaaMgD
namespace Go.Proofs.Ytanboekdfdafmaa.Pv
open Go.ChangeShapes Go.WideShapes Go.ChangeAt Go.RowKit Go.Joins Go.Deep Go.Proofs.Ytanboekdfdafmaa.PM Go.Proofs.Ytanboekdfdafmaa.Ask Go.Proofs.Ytanboekdfdafmaa.Ge
set_option linter.unusedVariables false

theorem cellsMs : Try.prog.cellsOf 54 = 17 := by kernel_rfl
theorem cellsRt : Try.prog.cellsOf 52 = 10 := by kernel_rfl
theorem cellsPf : Try.prog.cellsOf 49 = 2 := by kernel_rfl
theorem cells64 : Try.prog.cellsOf 3 = 1 := by kernel_rfl
theorem cells32 : Try.prog.cellsOf 47 = 1 := by kernel_rfl
theorem cellsSP : Try.prog.cellsOf 46 = 1 := by kernel_rfl
theorem cellsSI : Try.prog.cellsOf 50 = 1 := by kernel_rfl
theorem array17 {cs : Array Value} (h : cs.size = 17) : ∃ c0 c1 c2 c3 c4 c5 c6 c7 c8 c9 c10 c11 c12 c13 c14 c15 c16, cs = #[c0, c1, c2, c3, c4, c5, c6, c7, c8, c9, c10, c11, c12, c13, c14, c15, c16] := by
  obtain ⟨l⟩ := cs
  match l, h with
  | [c0, c1, c2, c3, c4, c5, c6, c7, c8, c9, c10, c11, c12, c13, c14, c15, c16], _ => exact ⟨c0, c1, c2, c3, c4, c5, c6, c7, c8, c9, c10, c11, c12, c13, c14, c15, c16, rfl⟩
section
variable {H : Type}
theorem weighs (d : DataW H) : 1 ≤ Rows.uptoBulk d := by
  cases d with
  | lit l => cases l <;> simp [Rows.uptoBulk]
  | _ => simp [Rows.uptoBulk]
theorem many (l : List (DataW H)) : l.length ≤ Rows.uptoBulkAll l := by
  induction l with
  | nil => simp
  | cons x r ih => have := weighs x; simp only [Rows.uptoBulkAll, List.length_cons]; omega
theorem bulk_mem {l : List (DataW H)} {z : DataW H} (h : z ∈ l) : Rows.uptoBulk z ≤ Rows.uptoBulkAll l := by
  induction l with
  | nil => cases h
  | cons x r ih =>
    simp only [Rows.uptoBulkAll]
    rcases List.mem_cons.1 h with rfl | h
    · omega
    · have := ih h; omega
end
section
variable {H : Type} {enc : TypeId × Value → H}
theorem lt_cell {W : World} {b o : Nat} {v : Value} (h : W.cell? ⟨b, o, none⟩ = some v) : b < W.heap.size := World.block_lt_of_cell? W _ h
set_option maxRecDepth 100000 in
theorem open_pfxs {W : World} {n : Nat} {c : Value} {x : DataW H × List MemPlace} (h : DataW.trod enc Try.prog W 0 (fun _ => true) true n 46 [c] = some x) : ∃ (a : Option Addr) (xs : List (Int × Int)) (cap : Nat), c = .slice a xs.length cap ∧ Lst E2 W a xs ∧ (∀ p ∈ xs, InA p) ∧ xs.length ≤ cap ∧ xs.length ≤ Rows.uptoBulk x.1 := by
  rcases open_slice Try.underlying46 h with ⟨hc, -⟩ | ⟨ad, len, cap, m, k, D, Pl, hc, -, hl, hm, hmm, hx, hall⟩
  · simp at hc
    exact ⟨none, [], 0, hc, ⟨by simp, fun i hi => absurd hi (by simp)⟩, by simp, by simp, by simp⟩
  · simp at hc
    simp only [if_true] at hmm
    subst hmm
    have hblk : len ≤ Rows.uptoBulk x.1 := by
      rw [hx]
      simp only [Rows.uptoBulk]
      have h1 := many ((List.range len).map D)
      simp only [List.length_map, List.length_range] at h1
      omega
    rw [cellsPf] at hall
    have each : ∀ i, i < m → ∃ q : Int × Int, InA q ∧ W.cell? (ad.add (i * 2)) = some (.int .u32 q.1) ∧ W.cell? (ad.add (i * 2 + 1)) = some (.int .i64 q.2) := fun i hi => by
      obtain ⟨cs', g, t⟩ := hall i hi
      obtain ⟨y0, y1, n1, -, hlen, t0, t1⟩ := trod_struct2 Try.underlying49 t
      rw [cellsPf] at hlen
      obtain ⟨-, -, hcell⟩ := World.cells?_some g
      have e0 := hcell 0 (by omega)
      have e1 := hcell 1 (by omega)
      rw [add_add] at e0 e1
      match cs', hlen with
      | [c0, c1], _ =>
        simp [cells64, cells32] at t0 t1
        obtain ⟨N0, h0, -, hw⟩ := DataW.trod_int Try.underlying47 t0
        obtain ⟨N1, h1, -, -⟩ := DataW.trod_int Try.underlying3 t1
        simp at h0 h1
        subst h0 h1
        have hb := bounds_u32 hw
        exact ⟨(N0, N1), ⟨hb.1, by have := hb.2; show N0 < _; omega⟩, by simpa using e0, by simpa using e1⟩
    obtain ⟨q, hq⟩ := choose_lt each
    refine ⟨some ad, (List.range len).map q, m, by simpa using hc, ⟨?_, ?_⟩, ?_, by simpa using hl, by simpa using hblk⟩
    · simp; unfold maxLen at hm; omega
    · intro i hi
      have hi' : i < len := by simpa using hi
      obtain ⟨-, g0, g1⟩ := hq i (by omega)
      have hs : ad.spot = none := by simpa [Addr.add] using World.cell?_spot (hq 0 (by omega)).2.1
      obtain ⟨b, o, sp⟩ := ad
      obtain rfl : sp = none := hs
      have g0' : W.cell? ⟨b, o + i * 2, none⟩ = some (.int .u32 (q i).1) := by simpa [Addr.add_lit] using g0
      have g1' : W.cell? ⟨b, o + i * 2 + 1, none⟩ = some (.int .i64 (q i).2) := by simpa [Addr.add_lit, Nat.add_assoc] using g1
      refine ⟨b, o, rfl, lt_cell g0', fun j hj => ?_⟩
      have hj2 : j < 2 := hj
      match j, hj2 with
      | 0, _ => show W.cell? ⟨b, o + i * 2 + 0, none⟩ = _; rw [Nat.add_zero, g0']; simp [E2]
      | 1, _ => show W.cell? ⟨b, o + i * 2 + 1, none⟩ = _; rw [g1']; simp [E2]
    · intro d hd
      obtain ⟨i, hi, rfl⟩ := List.mem_map.1 hd
      exact (hq i (by have := List.mem_range.1 hi; omega)).1
set_option maxRecDepth 100000 in
theorem open_nums {W : World} {n : Nat} {c : Value} {x : DataW H × List MemPlace} (h : DataW.trod enc Try.prog W 0 (fun _ => true) true n 50 [c] = some x) : ∃ (a : Option Addr) (xs : List Int) (cap : Nat), c = .slice a xs.length cap ∧ Lst EI W a xs ∧ xs.length ≤ cap ∧ xs.length ≤ Rows.uptoBulk x.1 := by
  rcases open_slice Try.underlying50 h with ⟨hc, -⟩ | ⟨ad, len, cap, m, k, D, Pl, hc, -, hl, hm, hmm, hx, hall⟩
  · simp at hc
    exact ⟨none, [], 0, hc, ⟨by simp, fun i hi => absurd hi (by simp)⟩, by simp, by simp⟩
  · simp at hc
    simp only [if_true] at hmm
    subst hmm
    have hblk : len ≤ Rows.uptoBulk x.1 := by
      rw [hx]
      simp only [Rows.uptoBulk]
      have h1 := many ((List.range len).map D)
      simp only [List.length_map, List.length_range] at h1
      omega
    rw [cells64] at hall
    have each : ∀ i, i < m → ∃ q : Int, W.cell? (ad.add (i * 1)) = some (.int .i64 q) := fun i hi => by
      obtain ⟨cs', g, t⟩ := hall i hi
      obtain ⟨-, hlen, hcell⟩ := World.cells?_some g
      have e0 := hcell 0 (by omega)
      rw [add_add] at e0
      obtain ⟨N0, h0, -, -⟩ := DataW.trod_int Try.underlying3 t
      subst h0
      exact ⟨N0, by simpa using e0⟩
    obtain ⟨q, hq⟩ := choose_lt each
    refine ⟨some ad, (List.range len).map q, m, by simpa using hc, ⟨?_, ?_⟩, by simpa using hl, by simpa using hblk⟩
    · simp; unfold maxLen at hm; omega
    · intro i hi
      have hi' : i < len := by simpa using hi
      have g0 := hq i (by omega)
      have hs : ad.spot = none := by simpa [Addr.add] using World.cell?_spot (hq 0 (by omega))
      obtain ⟨b, o, sp⟩ := ad
      obtain rfl : sp = none := hs
      have g0' : W.cell? ⟨b, o + i, none⟩ = some (.int .i64 (q i)) := by simpa [Addr.add_lit] using g0
      refine ⟨b, o, rfl, lt_cell g0', fun j hj => ?_⟩
      have hj2 : j < 1 := hj
      obtain rfl : j = 0 := by omega
      show W.cell? ⟨b, o + i * 1 + 0, none⟩ = _
      rw [Nat.mul_one, Nat.add_zero, g0']
      simp [EI]
set_option maxRecDepth 100000 in
set_option maxHeartbeats 2000000 in
theorem open_msg {W : World} {r : Reach} {b0 : Nat} {v : Value} {d : DataW H} {p : List MemPlace} (hv : Value.okWide Try.prog W r b0 54 v) (h : DataW.Trod enc Try.prog W 0 (fun _ => true) true 54 v d p) : ∃ (m : Ms) (s : Sl), v = msV m s ∧ MOk W m s ∧ m.lost.length ≤ Rows.uptoBulk d ∧ m.hv.length ≤ Rows.uptoBulk d ∧ m.rt.path.length ≤ Rows.uptoBulk d ∧ m.rt.marks.length ≤ Rows.uptoBulk d ∧ m.rt.clus.length ≤ Rows.uptoBulk d := by
  obtain ⟨cs, rfl, hsz⟩ := okWide_struct Try.underlying54 hv
  obtain ⟨c0, c1, c2, c3, c4, c5, c6, c7, c8, c9, c10, c11, c12, c13, c14, c15, c16, rfl⟩ := array17 (hsz.trans cellsMs)
  obtain ⟨fuel, h⟩ := h
  obtain ⟨xs, n, -, HXD, hl, hlen, hf⟩ := DataW.trod_struct Try.underlying54 h
  have hd : d = .agg (xs.map (·.1)) := congrArg Prod.fst HXD
  have bm : ∀ {i : Nat} {y : DataW H × List MemPlace}, xs[i]? = some y → Rows.uptoBulk y.1 ≤ Rows.uptoBulk d := fun {i y} hy => by
    have := bulk_mem (l := xs.map (·.1)) (z := y.1) (List.mem_map.2 ⟨y, List.mem_of_getElem? hy, rfl⟩)
    rw [hd]
    simp only [Rows.uptoBulk]
    omega
  have hlen' : xs.length = 8 := hlen
  have at_ : ∀ i, i < 8 → ∃ y, xs[i]? = some y := fun i hi => ⟨xs[i]'(by omega), List.getElem?_eq_getElem (by omega)⟩
  obtain ⟨y0, e0⟩ := at_ 0 (by decide)
  obtain ⟨y1, e1⟩ := at_ 1 (by decide)
  obtain ⟨y2, e2⟩ := at_ 2 (by decide)
  obtain ⟨y3, e3⟩ := at_ 3 (by decide)
  obtain ⟨y4, e4⟩ := at_ 4 (by decide)
  obtain ⟨y5, e5⟩ := at_ 5 (by decide)
  obtain ⟨y6, e6⟩ := at_ 6 (by decide)
  obtain ⟨y7, e7⟩ := at_ 7 (by decide)
  have g0 := (hf 0 _ rfl).trans e0
  have g1 := (hf 1 _ rfl).trans e1
  have g2 := (hf 2 _ rfl).trans e2
  have g3 := (hf 3 _ rfl).trans e3
  have g4 := (hf 4 _ rfl).trans e4
  have g5 := (hf 5 _ rfl).trans e5
  have g6 := (hf 6 _ rfl).trans e6
  have g7 := (hf 7 _ rfl).trans e7
  simp [Value.cells, cells64, cellsSP, cellsRt] at g0 g1 g2 g3 g4 g5 g6 g7
  obtain ⟨zs, n2, -, hzd, hl2, hlen2, hf2⟩ := DataW.trod_struct Try.underlying52 g7
  have hd2 : y7.1 = .agg (zs.map (·.1)) := congrArg Prod.fst hzd
  have bm2 : ∀ {i : Nat} {y : DataW H × List MemPlace}, zs[i]? = some y → Rows.uptoBulk y.1 ≤ Rows.uptoBulk d := fun {i y} hy => by
    have h1 := bm e7
    have := bulk_mem (l := zs.map (·.1)) (z := y.1) (List.mem_map.2 ⟨y, List.mem_of_getElem? hy, rfl⟩)
    rw [hd2] at h1
    simp only [Rows.uptoBulk] at h1
    omega
  have hlen2' : zs.length = 9 := hlen2
  have at2 : ∀ i, i < 9 → ∃ y, zs[i]? = some y := fun i hi => ⟨zs[i]'(by omega), List.getElem?_eq_getElem (by omega)⟩
  obtain ⟨t0, f0⟩ := at2 0 (by decide)
  obtain ⟨t1, f1⟩ := at2 1 (by decide)
  obtain ⟨t2, f2⟩ := at2 2 (by decide)
  obtain ⟨t3, f3⟩ := at2 3 (by decide)
  obtain ⟨t4, f4⟩ := at2 4 (by decide)
  obtain ⟨t5, f5⟩ := at2 5 (by decide)
  obtain ⟨t6, f6⟩ := at2 6 (by decide)
  obtain ⟨t7, f7⟩ := at2 7 (by decide)
  obtain ⟨t8, f8⟩ := at2 8 (by decide)
  have k0 := (hf2 0 _ rfl).trans f0
  have k1 := (hf2 1 _ rfl).trans f1
  have k2 := (hf2 2 _ rfl).trans f2
  have k3 := (hf2 3 _ rfl).trans f3
  have k4 := (hf2 4 _ rfl).trans f4
  have k5 := (hf2 5 _ rfl).trans f5
  have k6 := (hf2 6 _ rfl).trans f6
  have k7 := (hf2 7 _ rfl).trans f7
  have k8 := (hf2 8 _ rfl).trans f8
  simp [cells64, cells32, cellsPf, cellsSI] at k0 k1 k2 k3 k4 k5 k6 k7 k8
  obtain ⟨N0, h0, -, -⟩ := DataW.trod_int Try.underlying3 g0
  obtain ⟨N1, h1, -, -⟩ := DataW.trod_int Try.underlying3 g1
  obtain ⟨N2, h2, -, -⟩ := DataW.trod_int Try.underlying3 g2
  obtain ⟨N3, h3, -, -⟩ := DataW.trod_int Try.underlying3 g3
  obtain ⟨N4, h4, -, -⟩ := DataW.trod_int Try.underlying3 g4
  obtain ⟨la, lost, lc, hl5, kl, ilo, llc, lbu⟩ := open_pfxs g5
  obtain ⟨ha, have_, hc, hl6, kh, iho, lhc, hbu⟩ := open_pfxs g6
  obtain ⟨w0, w1, n3, -, -, u0, u1⟩ := trod_struct2 Try.underlying49 k0
  simp [cells64, cells32] at u0 u1
  obtain ⟨P0, p0, -, -⟩ := DataW.trod_int Try.underlying47 u0
  obtain ⟨P1, p1, -, -⟩ := DataW.trod_int Try.underlying3 u1
  obtain ⟨pa, path, pc, q1, kp, lpc, pbu⟩ := open_nums k1
  obtain ⟨R2, r2, -, -⟩ := DataW.trod_int Try.underlying3 k2
  obtain ⟨R3, r3, -, -⟩ := DataW.trod_int Try.underlying3 k3
  obtain ⟨R4, r4, -, -⟩ := DataW.trod_int Try.underlying3 k4
  obtain ⟨R5, r5, -, hw⟩ := DataW.trod_int Try.underlying47 k5
  obtain ⟨ma, marks, mc, q6, km, lmc, mbu⟩ := open_nums k6
  obtain ⟨ca, clus, cc, q7, kc, lcc, cbu⟩ := open_nums k7
  obtain ⟨R8, r8, -, -⟩ := DataW.trod_int Try.underlying3 k8
  simp at h0 h1 h2 h3 h4 p0 p1 r2 r3 r4 r5 r8
  subst h0 h1 h2 h3 h4 hl5 hl6 p0 p1 q1 r2 r3 r4 r5 q6 q7 r8
  have hb := bounds_u32 hw
  have b5 := bm e5
  have b6 := bm e6
  have b1 := bm2 f1
  have b7 := bm2 f6
  have b8 := bm2 f7
  exact ⟨⟨N0, N1, N2, N3, N4, lost, have_, ⟨P0, P1, path, R2, R3, R4, R5, marks, clus, R8⟩⟩, ⟨la, lc, ha, hc, pa, pc, ma, mc, ca, cc⟩, rfl, ⟨kl, kh, llc, lhc, ilo, iho, ⟨kp, km, kc, lpc, lmc, lcc, hb.1, by have := hb.2; show R5 < _; omega⟩⟩, Nat.le_trans lbu b5, Nat.le_trans hbu b6, Nat.le_trans pbu b1, Nat.le_trans mbu b7, Nat.le_trans cbu b8⟩
end
end Go.Proofs.Ytanboekdfdafmaa.Pv
namespace Go.Proofs.Ytanboekdfdafmaa.Pv
open Go.ChangeShapes Go.WideShapes Go.ChangeAt Go.RowKit Go.Joins Go.Deep Go.Proofs.Ytanboekdfdafmaa.PM Go.Proofs.Ytanboekdfdafmaa.Ask Go.Proofs.Ytanboekdfdafmaa.Ge
set_option linter.unusedVariables false
section
variable {H : Type} {enc : TypeId × Value → H}
set_option maxRecDepth 100000 in
theorem cellsI2 : Try.prog.cellsOf 22 = 2 := by kernel_rfl
set_option maxRecDepth 100000 in
theorem ok_two {W : World} {base : Nat} {v : Value} (h : Value.okWide Try.prog W .any base 22 v) : ∃ xs : Array Value, v = .agg xs := by
  simp only [Value.okWide, Try.underlying22] at h
  obtain ⟨cs, h1, -⟩ := h
  exact ⟨cs, h1⟩
set_option maxRecDepth 100000 in
theorem open_two {W : World} {xs : Array Value} {d : DataW H} {p : List MemPlace} (h : DataW.Trod enc Try.prog W 0 (fun _ => true) true 22 (.agg xs) d p) : ∃ a b : Int, xs = #[.int .i64 a, .int .i64 b] ∧ (-9223372036854775808 ≤ a ∧ a < 9223372036854775808) ∧ (-9223372036854775808 ≤ b ∧ b < 9223372036854775808) := by
  obtain ⟨n, h⟩ := h
  obtain ⟨ys, m, -, -, hl, hn, hf⟩ := DataW.trod_array Try.underlying22 h
  rw [cellsI2] at hl
  have hl2 : xs.toList.length = 2 := hl
  match hx : xs.toList, hl2 with
  | [x0, x1], _ =>
    have g0 := hf 0 (by decide)
    have g1 := hf 1 (by decide)
    rw [List.getElem?_eq_getElem (by omega)] at g0 g1
    simp [Value.cells, hx, cells64] at g0 g1
    obtain ⟨a, ea, -, wa⟩ := DataW.trod_int Try.underlying3 g0
    obtain ⟨b, eb, -, wb⟩ := DataW.trod_int Try.underlying3 g1
    simp at ea eb
    have ba := bounds_i64 wa
    have bb := bounds_i64 wb
    refine ⟨a, b, ?_, ⟨by omega, by omega⟩, ⟨by omega, by omega⟩⟩
    rw [← ea, ← eb]
    exact Array.toList_inj.1 (by rw [hx])
end
end Go.Proofs.Ytanboekdfdafmaa.Pv
namespace Go.Proofs.Ytanboekdfdafmaa.Pv
open Go.ChangeShapes Go.WideShapes Go.ChangeAt Go.RowKit Go.Joins Go.Deep Go.Proofs.Ytanboekdfdafmaa.PM Go.Proofs.Ytanboekdfdafmaa.Ask Go.Proofs.Ytanboekdfdafmaa.Ge
set_option linter.unusedVariables false
section
variable {H : Type} {enc : TypeId × Value → H}
set_option maxRecDepth 100000 in
set_option maxHeartbeats 2000000 in
theorem open_msgC {W : World} {fuel : Nat} {c0 c1 c2 c3 c4 c5 c6 c7 c8 c9 c10 c11 c12 c13 c14 c15 c16 : Value} {x : DataW H × List MemPlace} (h : DataW.trod enc Try.prog W 0 (fun _ => true) true fuel 54 [c0, c1, c2, c3, c4, c5, c6, c7, c8, c9, c10, c11, c12, c13, c14, c15, c16] = some x) : ∃ (m : Ms) (s : Sl), [c0, c1, c2, c3, c4, c5, c6, c7, c8, c9, c10, c11, c12, c13, c14, c15, c16] = msL m s ∧ MOk W m s ∧ m.lost.length ≤ Rows.uptoBulk x.1 ∧ m.hv.length ≤ Rows.uptoBulk x.1 ∧ m.rt.path.length ≤ Rows.uptoBulk x.1 ∧ m.rt.marks.length ≤ Rows.uptoBulk x.1 ∧ m.rt.clus.length ≤ Rows.uptoBulk x.1 := by
  obtain ⟨xs, n, -, HXD, hl, hlen, hf⟩ := DataW.trod_struct Try.underlying54 h
  have hd : x.1 = .agg (xs.map (·.1)) := congrArg Prod.fst HXD
  have bm : ∀ {i : Nat} {y : DataW H × List MemPlace}, xs[i]? = some y → Rows.uptoBulk y.1 ≤ Rows.uptoBulk x.1 := fun {i y} hy => by
    have := bulk_mem (l := xs.map (·.1)) (z := y.1) (List.mem_map.2 ⟨y, List.mem_of_getElem? hy, rfl⟩)
    rw [hd]
    simp only [Rows.uptoBulk]
    omega
  have hlen' : xs.length = 8 := hlen
  have at_ : ∀ i, i < 8 → ∃ y, xs[i]? = some y := fun i hi => ⟨xs[i]'(by omega), List.getElem?_eq_getElem (by omega)⟩
  obtain ⟨y0, e0⟩ := at_ 0 (by decide)
  obtain ⟨y1, e1⟩ := at_ 1 (by decide)
  obtain ⟨y2, e2⟩ := at_ 2 (by decide)
  obtain ⟨y3, e3⟩ := at_ 3 (by decide)
  obtain ⟨y4, e4⟩ := at_ 4 (by decide)
  obtain ⟨y5, e5⟩ := at_ 5 (by decide)
  obtain ⟨y6, e6⟩ := at_ 6 (by decide)
  obtain ⟨y7, e7⟩ := at_ 7 (by decide)
  have g0 := (hf 0 _ rfl).trans e0
  have g1 := (hf 1 _ rfl).trans e1
  have g2 := (hf 2 _ rfl).trans e2
  have g3 := (hf 3 _ rfl).trans e3
  have g4 := (hf 4 _ rfl).trans e4
  have g5 := (hf 5 _ rfl).trans e5
  have g6 := (hf 6 _ rfl).trans e6
  have g7 := (hf 7 _ rfl).trans e7
  simp [cells64, cellsSP, cellsRt] at g0 g1 g2 g3 g4 g5 g6 g7
  obtain ⟨zs, n2, -, hzd, hl2, hlen2, hf2⟩ := DataW.trod_struct Try.underlying52 g7
  have hd2 : y7.1 = .agg (zs.map (·.1)) := congrArg Prod.fst hzd
  have bm2 : ∀ {i : Nat} {y : DataW H × List MemPlace}, zs[i]? = some y → Rows.uptoBulk y.1 ≤ Rows.uptoBulk x.1 := fun {i y} hy => by
    have h1 := bm e7
    have := bulk_mem (l := zs.map (·.1)) (z := y.1) (List.mem_map.2 ⟨y, List.mem_of_getElem? hy, rfl⟩)
    rw [hd2] at h1
    simp only [Rows.uptoBulk] at h1
    omega
  have hlen2' : zs.length = 9 := hlen2
  have at2 : ∀ i, i < 9 → ∃ y, zs[i]? = some y := fun i hi => ⟨zs[i]'(by omega), List.getElem?_eq_getElem (by omega)⟩
  obtain ⟨t0, f0⟩ := at2 0 (by decide)
  obtain ⟨t1, f1⟩ := at2 1 (by decide)
  obtain ⟨t2, f2⟩ := at2 2 (by decide)
  obtain ⟨t3, f3⟩ := at2 3 (by decide)
  obtain ⟨t4, f4⟩ := at2 4 (by decide)
  obtain ⟨t5, f5⟩ := at2 5 (by decide)
  obtain ⟨t6, f6⟩ := at2 6 (by decide)
  obtain ⟨t7, f7⟩ := at2 7 (by decide)
  obtain ⟨t8, f8⟩ := at2 8 (by decide)
  have k0 := (hf2 0 _ rfl).trans f0
  have k1 := (hf2 1 _ rfl).trans f1
  have k2 := (hf2 2 _ rfl).trans f2
  have k3 := (hf2 3 _ rfl).trans f3
  have k4 := (hf2 4 _ rfl).trans f4
  have k5 := (hf2 5 _ rfl).trans f5
  have k6 := (hf2 6 _ rfl).trans f6
  have k7 := (hf2 7 _ rfl).trans f7
  have k8 := (hf2 8 _ rfl).trans f8
  simp [cells64, cells32, cellsPf, cellsSI] at k0 k1 k2 k3 k4 k5 k6 k7 k8
  obtain ⟨N0, h0, -, -⟩ := DataW.trod_int Try.underlying3 g0
  obtain ⟨N1, h1, -, -⟩ := DataW.trod_int Try.underlying3 g1
  obtain ⟨N2, h2, -, -⟩ := DataW.trod_int Try.underlying3 g2
  obtain ⟨N3, h3, -, -⟩ := DataW.trod_int Try.underlying3 g3
  obtain ⟨N4, h4, -, -⟩ := DataW.trod_int Try.underlying3 g4
  obtain ⟨la, lost, lc, hl5, kl, ilo, llc, lbu⟩ := open_pfxs g5
  obtain ⟨ha, have_, hc, hl6, kh, iho, lhc, hbu⟩ := open_pfxs g6
  obtain ⟨w0, w1, n3, -, -, u0, u1⟩ := trod_struct2 Try.underlying49 k0
  simp [cells64, cells32] at u0 u1
  obtain ⟨P0, p0, -, -⟩ := DataW.trod_int Try.underlying47 u0
  obtain ⟨P1, p1, -, -⟩ := DataW.trod_int Try.underlying3 u1
  obtain ⟨pa, path, pc, q1, kp, lpc, pbu⟩ := open_nums k1
  obtain ⟨R2, r2, -, -⟩ := DataW.trod_int Try.underlying3 k2
  obtain ⟨R3, r3, -, -⟩ := DataW.trod_int Try.underlying3 k3
  obtain ⟨R4, r4, -, -⟩ := DataW.trod_int Try.underlying3 k4
  obtain ⟨R5, r5, -, hw⟩ := DataW.trod_int Try.underlying47 k5
  obtain ⟨ma, marks, mc, q6, km, lmc, mbu⟩ := open_nums k6
  obtain ⟨ca, clus, cc, q7, kc, lcc, cbu⟩ := open_nums k7
  obtain ⟨R8, r8, -, -⟩ := DataW.trod_int Try.underlying3 k8
  simp at h0 h1 h2 h3 h4 p0 p1 r2 r3 r4 r5 r8
  subst h0 h1 h2 h3 h4 hl5 hl6 p0 p1 q1 r2 r3 r4 r5 q6 q7 r8
  have hb := bounds_u32 hw
  have b5 := bm e5
  have b6 := bm e6
  have b1 := bm2 f1
  have b7 := bm2 f6
  have b8 := bm2 f7
  exact ⟨⟨N0, N1, N2, N3, N4, lost, have_, ⟨P0, P1, path, R2, R3, R4, R5, marks, clus, R8⟩⟩, ⟨la, lc, ha, hc, pa, pc, ma, mc, ca, cc⟩, rfl, ⟨kl, kh, llc, lhc, ilo, iho, ⟨kp, km, kc, lpc, lmc, lcc, hb.1, by have := hb.2; show R5 < _; omega⟩⟩, Nat.le_trans lbu b5, Nat.le_trans hbu b6, Nat.le_trans pbu b1, Nat.le_trans mbu b7, Nat.le_trans cbu b8⟩
theorem cellsSM : Try.prog.cellsOf 39 = 1 := by kernel_rfl
/-- its lists are no longer than the bulk -/
def BuM (n : Nat) (m : Ms) : Prop := m.lost.length ≤ n ∧ m.hv.length ≤ n ∧ m.rt.path.length ≤ n ∧ m.rt.marks.length ≤ n ∧ m.rt.clus.length ≤ n
set_option maxRecDepth 100000 in
theorem open_msgs {W : World} {a : Option Addr} {len cap : Nat} {d : DataW H} {p : List MemPlace} (h : DataW.Trod enc Try.prog W 0 (fun _ => true) true 39 (.slice a len cap) d p) : ∃ xs : List (Ms × Sl), xs.length = len ∧ Gm.Lst E17 W a xs ∧ (∀ q ∈ xs, MOk W q.1 q.2 ∧ BuM (Rows.uptoBulk d) q.1) := by
  obtain ⟨n, h⟩ := h
  rcases open_slice Try.underlying39 h with ⟨hc, -⟩ | ⟨ad, len', cap', m, k, D, Pl, hc, -, hl, hm, hmm, hx, hall⟩
  · simp [Value.cells] at hc
    obtain ⟨rfl, rfl, rfl⟩ := hc
    exact ⟨[], rfl, ⟨by simp, fun i hi => absurd hi (by simp)⟩, by simp⟩
  · simp [Value.cells] at hc
    obtain ⟨rfl, rfl, rfl⟩ := hc
    simp only [if_true] at hmm
    subst hmm
    have hdx : d = _ := congrArg Prod.fst hx
    have hbk : ∀ i, i < len → Rows.uptoBulk (D i) ≤ Rows.uptoBulk d := fun i hi => by
      rw [hdx]
      simp only [Rows.uptoBulk]
      have h1 := bulk_mem (l := (List.range len).map D) (z := D i) (List.mem_map.2 ⟨i, List.mem_range.2 hi, rfl⟩)
      omega
    rw [cellsMs] at hall
    have each : ∀ i, i < m → ∃ q : Ms × Sl, (MOk W q.1 q.2 ∧ BuM (Rows.uptoBulk (D i)) q.1) ∧ ∀ j v, (msL q.1 q.2)[j]? = some v → W.cell? (ad.add (i * 17 + j)) = some v := fun i hi => by
      obtain ⟨cs', g, t⟩ := hall i hi
      obtain ⟨-, hlen, hcell⟩ := World.cells?_some g
      match cs', hlen with
      | [c0, c1, c2, c3, c4, c5, c6, c7, c8, c9, c10, c11, c12, c13, c14, c15, c16], _ =>
        obtain ⟨y, s, he, hok, b1, b2, b3, b4, b5⟩ := open_msgC t
        refine ⟨(y, s), ⟨hok, ⟨b1, b2, b3, b4, b5⟩⟩, fun j v hj => ?_⟩
        have hjl : j < 17 := by
          have := (List.getElem?_eq_some_iff.1 hj).1
          simpa [msL] using this
        have e0 := hcell j hjl
        rw [add_add] at e0
        rw [e0, he]
        exact hj
    haveI : Inhabited (Ms × Sl) := ⟨(⟨0, 0, 0, 0, 0, [], [], ⟨0, 0, [], 0, 0, 0, 0, [], [], 0⟩⟩, ⟨none, 0, none, 0, none, 0, none, 0, none, 0⟩)⟩
    obtain ⟨q, hq⟩ := choose_lt each
    refine ⟨(List.range len).map q, by simp, ⟨?_, ?_⟩, ?_⟩
    · simp; unfold maxLen at hm; omega
    · intro i hi
      have hi' : i < len := by simpa using hi
      have hs : ad.spot = none := by simpa [Addr.add] using World.cell?_spot ((hq 0 (by omega)).2 0 _ rfl)
      obtain ⟨b, o, sp⟩ := ad
      obtain rfl : sp = none := hs
      obtain ⟨hok, hc2⟩ := hq i (by omega)
      have cc : ∀ j v, (msL (q i).1 (q i).2)[j]? = some v → W.cell? ⟨b, o + i * 17 + j, none⟩ = some v := fun j v hj => by
        have := hc2 j v hj
        rw [Addr.add_lit] at this
        rw [Nat.add_assoc]
        exact this
      refine ⟨b, o, rfl, lt_cell (cc 0 _ rfl), fun j hj => ?_⟩
      have hj17 : j < (msL (q i).1 (q i).2).length := hj
      have e5 : ((List.range len).map q)[i] = q i := by simp
      rw [e5]
      show W.cell? ⟨b, o + i * 17 + j, none⟩ = (msL (q i).1 (q i).2)[j]?
      rw [List.getElem?_eq_getElem hj17]
      exact cc j _ (List.getElem?_eq_getElem hj17)
    · intro y hy
      obtain ⟨i, hi, rfl⟩ := List.mem_map.1 hy
      have hi' := List.mem_range.1 hi
      obtain ⟨⟨hok, b1, b2, b3, b4, b5⟩, -⟩ := hq i (by omega)
      have hb := hbk i hi'
      exact ⟨hok, ⟨by omega, by omega, by omega, by omega, by omega⟩⟩
set_option maxRecDepth 100000 in
theorem open_cuts {W : World} {a : Option Addr} {len cap : Nat} {d : DataW H} {p : List MemPlace} (h : DataW.Trod enc Try.prog W 0 (fun _ => true) true 50 (.slice a len cap) d p) : ∃ xs : List Int, xs.length = len ∧ Lst EI W a xs ∧ (∀ c ∈ xs, -9223372036854775808 ≤ c ∧ c < 9223372036854775808) := by
  obtain ⟨n, h⟩ := h
  rcases open_slice Try.underlying50 h with ⟨hc, -⟩ | ⟨ad, len', cap', m, k, D, Pl, hc, -, hl, hm, hmm, hx, hall⟩
  · simp [Value.cells] at hc
    obtain ⟨rfl, rfl, rfl⟩ := hc
    exact ⟨[], rfl, ⟨by simp, fun i hi => absurd hi (by simp)⟩, by simp⟩
  · simp [Value.cells] at hc
    obtain ⟨rfl, rfl, rfl⟩ := hc
    simp only [if_true] at hmm
    subst hmm
    rw [cells64] at hall
    have each : ∀ i, i < m → ∃ q : Int, (-9223372036854775808 ≤ q ∧ q < 9223372036854775808) ∧ W.cell? (ad.add (i * 1)) = some (.int .i64 q) := fun i hi => by
      obtain ⟨cs', g, t⟩ := hall i hi
      obtain ⟨-, hlen, hcell⟩ := World.cells?_some g
      have e0 := hcell 0 (by omega)
      rw [add_add] at e0
      obtain ⟨N0, h0, -, hw⟩ := DataW.trod_int Try.underlying3 t
      subst h0
      have := bounds_i64 hw
      exact ⟨N0, ⟨by omega, by omega⟩, by simpa using e0⟩
    obtain ⟨q, hq⟩ := choose_lt each
    refine ⟨(List.range len).map q, by simp, ⟨?_, ?_⟩, ?_⟩
    · simp; unfold maxLen at hm; omega
    · intro i hi
      have hi' : i < len := by simpa using hi
      have g0 := (hq i (by omega)).2
      have hs : ad.spot = none := by simpa [Addr.add] using World.cell?_spot (hq 0 (by omega)).2
      obtain ⟨b, o, sp⟩ := ad
      obtain rfl : sp = none := hs
      have g0' : W.cell? ⟨b, o + i, none⟩ = some (.int .i64 (q i)) := by simpa [Addr.add_lit] using g0
      refine ⟨b, o, rfl, lt_cell g0', fun j hj => ?_⟩
      have hj2 : j < 1 := hj
      obtain rfl : j = 0 := by omega
      show W.cell? ⟨b, o + i * 1 + 0, none⟩ = _
      rw [Nat.mul_one, Nat.add_zero, g0']
      simp [EI]
    · intro y hy
      obtain ⟨i, hi, rfl⟩ := List.mem_map.1 hy
      exact (hq i (by have := List.mem_range.1 hi; omega)).1
end
end Go.Proofs.Ytanboekdfdafmaa.Pv
