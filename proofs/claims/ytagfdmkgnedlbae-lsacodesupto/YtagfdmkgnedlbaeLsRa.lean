/- A packet and bytes that come in, opened. -/
import Derived.Test.YtagfdmkgnedlbaeLsR
import Derived.Test.YtagfdmkgnedlbaeLsT
import Derived.Test.YtagfdmkgnedlbaeLsN
namespace Go.Proofs.Ytagfdmkgnedlbae.Ls
open Go.ChangeShapes Go.WideShapes Go.ChangeAt Go.RowKit Go.Joins Go.Deep Go.Proofs.Ytagfdmkgnedlbae.PM Go.Proofs.Ytagfdmkgnedlbae.Ask
set_option linter.unusedVariables false

theorem cellsPk : Try.prog.cellsOf 36 = 5 := by kernel_rfl
theorem cellsSA : Try.prog.cellsOf 34 = 1 := by kernel_rfl
theorem cells8 : Try.prog.cellsOf 5 = 1 := by kernel_rfl
theorem array5 {cs : Array Value} (h : cs.size = 5) : ∃ c0 c1 c2 c3 c4, cs = #[c0, c1, c2, c3, c4] := by
  obtain ⟨l⟩ := cs
  match l, h with
  | [c0, c1, c2, c3, c4], _ => exact ⟨c0, c1, c2, c3, c4, rfl⟩
section
variable {H : Type} {enc : TypeId × Value → H}
set_option maxRecDepth 100000 in
set_option maxHeartbeats 1000000 in
theorem open_lsaC {W : World} {fuel : Nat} {c0 c1 c2 c3 c4 c5 c6 c7 c8 c9 c10 : Value} {x : DataW H × List MemPlace} (h : DataW.trod enc Try.prog W 0 (fun _ => true) true fuel 28 [c0, c1, c2, c3, c4, c5, c6, c7, c8, c9, c10] = some x) : ∃ (x : Lsa) (la : Option Addr) (lc : Nat) (sa : Option Addr) (sc : Nat), [c0, c1, c2, c3, c4, c5, c6, c7, c8, c9, c10] = [.int .i64 x.kind, .int .i64 x.area, .int .i64 x.origin, .int .u32 x.pa, .int .i64 x.pn, .int .i64 x.seq, .int .i64 x.age, .slice la x.links.length lc, .slice sa x.stubs.length sc, .int .i64 x.cost, .int .i64 x.tag] ∧ LsOk W x la sa := by
  obtain ⟨xs, n, -, -, hl, hlen, hf⟩ := DataW.trod_struct Try.underlying28 h
  have hlen' : xs.length = 10 := hlen
  have at_ : ∀ i, i < 10 → ∃ y, xs[i]? = some y := fun i hi => ⟨xs[i]'(by omega), List.getElem?_eq_getElem (by omega)⟩
  obtain ⟨y0, e0⟩ := at_ 0 (by decide)
  obtain ⟨y1, e1⟩ := at_ 1 (by decide)
  obtain ⟨y2, e2⟩ := at_ 2 (by decide)
  obtain ⟨y3, e3⟩ := at_ 3 (by decide)
  obtain ⟨y4, e4⟩ := at_ 4 (by decide)
  obtain ⟨y5, e5⟩ := at_ 5 (by decide)
  obtain ⟨y6, e6⟩ := at_ 6 (by decide)
  obtain ⟨y7, e7⟩ := at_ 7 (by decide)
  obtain ⟨y8, e8⟩ := at_ 8 (by decide)
  obtain ⟨y9, e9⟩ := at_ 9 (by decide)
  have g0 := (hf 0 _ rfl).trans e0
  have g1 := (hf 1 _ rfl).trans e1
  have g2 := (hf 2 _ rfl).trans e2
  have g3 := (hf 3 _ rfl).trans e3
  have g4 := (hf 4 _ rfl).trans e4
  have g5 := (hf 5 _ rfl).trans e5
  have g6 := (hf 6 _ rfl).trans e6
  have g7 := (hf 7 _ rfl).trans e7
  have g8 := (hf 8 _ rfl).trans e8
  have g9 := (hf 9 _ rfl).trans e9
  simp [cells64, cellsPf, cellsSL, cellsSS] at g0 g1 g2 g3 g4 g5 g6 g7 g8 g9
  obtain ⟨N0, h0, -, -⟩ := DataW.trod_int Try.underlying3 g0
  obtain ⟨N1, h1, -, -⟩ := DataW.trod_int Try.underlying3 g1
  obtain ⟨N2, h2, -, -⟩ := DataW.trod_int Try.underlying3 g2
  obtain ⟨z0, z1, n2, -, -, u0, u1⟩ := trod_struct2 Try.underlying24 g3
  simp [cells64, cells32] at u0 u1
  obtain ⟨N3, h3, -, hw⟩ := DataW.trod_int Try.underlying22 u0
  obtain ⟨N4, h4, -, -⟩ := DataW.trod_int Try.underlying3 u1
  obtain ⟨N5, h5, -, -⟩ := DataW.trod_int Try.underlying3 g4
  obtain ⟨N6, h6, -, -⟩ := DataW.trod_int Try.underlying3 g5
  obtain ⟨la, links, lc, rfl, hlk⟩ := open_links g6
  obtain ⟨sa, stubs, sc, rfl, hst, hs32⟩ := open_stubs g7
  obtain ⟨N9, h9, -, -⟩ := DataW.trod_int Try.underlying3 g8
  obtain ⟨N10, h10, -, -⟩ := DataW.trod_int Try.underlying3 g9
  simp at h0 h1 h2 h3 h4 h5 h6 h9 h10
  subst h0 h1 h2 h3 h4 h5 h6 h9 h10
  have hb := bounds_u32 hw
  exact ⟨⟨N0, N1, N2, N3, N4, N5, N6, N9, N10, links, stubs⟩, la, lc, sa, sc, rfl, ⟨hlk, hst, ⟨hb.1, by have := hb.2; show N3 < _; omega⟩, hs32⟩⟩
/-- an announcement in a row, with where its lists lie -/
structure LQ where
  x : Lsa
  la : Option Addr
  lc : Nat
  sa : Option Addr
  sc : Nat
set_option maxRecDepth 100000 in
theorem open_lsas {W : World} {n : Nat} {c : Value} {x : DataW H × List MemPlace} (h : DataW.trod enc Try.prog W 0 (fun _ => true) true n 34 [c] = some x) : ∃ (a : Option Addr) (xs : List Lsa) (cap : Nat), c = .slice a xs.length cap ∧ LAll W a xs := by
  rcases open_slice Try.underlying34 h with ⟨hc, -⟩ | ⟨ad, len, cap, m, k, D, Pl, hc, -, hl, hm, hmm, hx, hall⟩
  · simp at hc
    exact ⟨none, [], 0, hc, ⟨by simp, fun i hi => absurd hi (by simp)⟩⟩
  · simp at hc
    simp only [if_true] at hmm
    subst hmm
    rw [cells28] at hall
    have each : ∀ i, i < m → ∃ q : LQ, LsOk W q.x q.la q.sa ∧ ∀ j v, [Value.int .i64 q.x.kind, .int .i64 q.x.area, .int .i64 q.x.origin, .int .u32 q.x.pa, .int .i64 q.x.pn, .int .i64 q.x.seq, .int .i64 q.x.age, .slice q.la q.x.links.length q.lc, .slice q.sa q.x.stubs.length q.sc, .int .i64 q.x.cost, .int .i64 q.x.tag][j]? = some v → W.cell? (ad.add (i * 11 + j)) = some v := fun i hi => by
      obtain ⟨cs', g, t⟩ := hall i hi
      obtain ⟨-, hlen, hcell⟩ := World.cells?_some g
      match cs', hlen with
      | [c0, c1, c2, c3, c4, c5, c6, c7, c8, c9, c10], _ =>
        obtain ⟨y, la, lc, sa, sc, he, hok⟩ := open_lsaC t
        refine ⟨⟨y, la, lc, sa, sc⟩, hok, fun j v hj => ?_⟩
        have hjl : j < 11 := by
          have := (List.getElem?_eq_some_iff.1 hj).1
          simpa using this
        have e0 := hcell j hjl
        rw [add_add] at e0
        rw [e0, he]
        exact hj
    haveI : Inhabited LQ := ⟨⟨⟨0, 0, 0, 0, 0, 0, 0, 0, 0, [], []⟩, none, 0, none, 0⟩⟩
    obtain ⟨q, hq⟩ := choose_lt each
    refine ⟨some ad, (List.range len).map (fun i => (q i).x), m, by simpa using hc, ⟨?_, ?_⟩⟩
    · simp; unfold maxLen at hm; omega
    · intro i hi
      have hi' : i < len := by simpa using hi
      have hs : ad.spot = none := by simpa [Addr.add] using World.cell?_spot ((hq 0 (by omega)).2 0 _ rfl)
      obtain ⟨b, o, sp⟩ := ad
      obtain rfl : sp = none := hs
      obtain ⟨hok, hc2⟩ := hq i (by omega)
      have cc : ∀ j v, [Value.int .i64 (q i).x.kind, .int .i64 (q i).x.area, .int .i64 (q i).x.origin, .int .u32 (q i).x.pa, .int .i64 (q i).x.pn, .int .i64 (q i).x.seq, .int .i64 (q i).x.age, .slice (q i).la (q i).x.links.length (q i).lc, .slice (q i).sa (q i).x.stubs.length (q i).sc, .int .i64 (q i).x.cost, .int .i64 (q i).x.tag][j]? = some v → W.cell? ⟨b, o + i * 11 + j, none⟩ = some v := fun j v hj => by
        have := hc2 j v hj
        rw [Addr.add_lit] at this
        rw [Nat.add_assoc]
        exact this
      rw [show ((List.range len).map (fun i => (q i).x))[i] = (q i).x by simp]
      exact ⟨b, o, (q i).la, (q i).lc, (q i).sa, (q i).sc, rfl, lt_cell (cc 0 _ rfl), ⟨cc 0 _ rfl, cc 1 _ rfl, cc 2 _ rfl, cc 3 _ rfl, cc 4 _ rfl, cc 5 _ rfl, cc 6 _ rfl, cc 7 _ rfl, cc 8 _ rfl, cc 9 _ rfl, cc 10 _ rfl⟩, hok⟩
set_option maxRecDepth 100000 in
theorem open_packet {W : World} {r : Reach} {b0 : Nat} {v : Value} {d : DataW H} {p : List MemPlace} (hv : Value.okWide Try.prog W r b0 36 v) (h : DataW.Trod enc Try.prog W 0 (fun _ => true) true 36 v d p) : ∃ (kind frm area seen : Int) (xs : List Lsa) (va : Option Addr) (cap : Nat), v = pkV kind frm area seen va xs.length cap ∧ LAll W va xs := by
  obtain ⟨cs, rfl, hsz⟩ := okWide_struct Try.underlying36 hv
  obtain ⟨c0, c1, c2, c3, c4, rfl⟩ := array5 (hsz.trans cellsPk)
  obtain ⟨fuel, h⟩ := h
  obtain ⟨xs, n, -, -, hl, hlen, hf⟩ := DataW.trod_struct Try.underlying36 h
  have hlen' : xs.length = 5 := hlen
  have at_ : ∀ i, i < 5 → ∃ y, xs[i]? = some y := fun i hi => ⟨xs[i]'(by omega), List.getElem?_eq_getElem (by omega)⟩
  obtain ⟨y0, e0⟩ := at_ 0 (by decide)
  obtain ⟨y1, e1⟩ := at_ 1 (by decide)
  obtain ⟨y2, e2⟩ := at_ 2 (by decide)
  obtain ⟨y3, e3⟩ := at_ 3 (by decide)
  obtain ⟨y4, e4⟩ := at_ 4 (by decide)
  have g0 := (hf 0 _ rfl).trans e0
  have g1 := (hf 1 _ rfl).trans e1
  have g2 := (hf 2 _ rfl).trans e2
  have g3 := (hf 3 _ rfl).trans e3
  have g4 := (hf 4 _ rfl).trans e4
  simp [Value.cells, cells64, cellsSA] at g0 g1 g2 g3 g4
  obtain ⟨N0, h0, -, -⟩ := DataW.trod_int Try.underlying3 g0
  obtain ⟨N1, h1, -, -⟩ := DataW.trod_int Try.underlying3 g1
  obtain ⟨N2, h2, -, -⟩ := DataW.trod_int Try.underlying3 g2
  obtain ⟨N3, h3, -, -⟩ := DataW.trod_int Try.underlying3 g3
  obtain ⟨va, ls, cap, rfl, hal⟩ := open_lsas g4
  simp at h0 h1 h2 h3
  subst h0 h1 h2 h3
  exact ⟨N0, N1, N2, N3, ls, va, cap, rfl, hal⟩
set_option maxRecDepth 100000 in
theorem open_bytes {W : World} {a : Option Addr} {len cap : Nat} {d : DataW H} {p : List MemPlace} (h : DataW.Trod enc Try.prog W 0 (fun _ => true) true 37 (.slice a len cap) d p) : ∃ bs : List Nat, bs.length = len ∧ len ≤ cap ∧ By W a bs := by
  obtain ⟨n, h⟩ := h
  rcases open_slice Try.underlying37 h with ⟨hc, -⟩ | ⟨ad, len', cap', m, k, D, Pl, hc, -, hl, hm, hmm, hx, hall⟩
  · simp [Value.cells] at hc
    obtain ⟨rfl, rfl, rfl⟩ := hc
    exact ⟨[], rfl, Nat.le_refl _, ⟨by simp, fun i hi => absurd hi (by simp), fun d hd => by cases hd⟩⟩
  · simp [Value.cells] at hc
    obtain ⟨rfl, rfl, rfl⟩ := hc
    simp only [if_true] at hmm
    subst hmm
    rw [cells8] at hall
    have each : ∀ i, i < m → ∃ q : Nat, q < 256 ∧ W.cell? (ad.add i) = some (.int .u8 (q : Int)) := fun i hi => by
      obtain ⟨cs', g, t⟩ := hall i hi
      obtain ⟨-, hlen, hcell⟩ := World.cells?_some g
      have e0 := hcell 0 (by omega)
      rw [add_add] at e0
      match cs', hlen with
      | [c0], _ =>
        obtain ⟨N0, h0, -, hw⟩ := DataW.trod_int Try.underlying5 t
        simp at h0
        subst h0
        have hb := bounds_u8 hw
        refine ⟨N0.toNat, by omega, ?_⟩
        rw [Int.toNat_of_nonneg hb.1]
        simpa using e0
    obtain ⟨q, hq⟩ := choose_lt each
    refine ⟨(List.range len).map q, by simp, hl, ⟨?_, ?_, ?_⟩⟩
    · simp; unfold maxLen at hm; omega
    · intro i hi
      have hi' : i < len := by simpa using hi
      obtain ⟨-, g0⟩ := hq i (by omega)
      have hs : ad.spot = none := by simpa [Addr.add] using World.cell?_spot (hq 0 (by omega)).2
      obtain ⟨b, o, sp⟩ := ad
      obtain rfl : sp = none := hs
      have g0' : W.cell? ⟨b, o + i, none⟩ = some (.int .u8 (q i : Int)) := by simpa [Addr.add_lit] using g0
      exact ⟨b, o, rfl, lt_cell g0', by rw [g0']; simp⟩
    · intro d hd
      obtain ⟨i, hi, rfl⟩ := List.mem_map.1 hd
      exact (hq i (by have := List.mem_range.1 hi; omega)).1
end
end Go.Proofs.Ytagfdmkgnedlbae.Ls
