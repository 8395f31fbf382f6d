/- A packet and bytes that come in, opened: how much they hold, too. -/
import Derived.Test.YtagfdmkgnedlbaeLsRa
import Derived.Test.YtagfdmkgnedlbaeLsS
import Derived.Test.YtagfdmkgnedlbaeLtI
namespace Go.Proofs.Ytagfdmkgnedlbae.Ls
open Go.ChangeShapes Go.WideShapes Go.ChangeAt Go.RowKit Go.Joins Go.Deep Go.Proofs.Ytagfdmkgnedlbae.PM Go.Proofs.Ytagfdmkgnedlbae.Ask
set_option linter.unusedVariables false

section
variable {H : Type} {enc : TypeId × Value → H}
set_option maxRecDepth 100000 in
set_option maxHeartbeats 1000000 in
theorem open_lsaC2 {W : World} {fuel : Nat} {c0 c1 c2 c3 c4 c5 c6 c7 c8 c9 c10 : Value} {z : DataW H × List MemPlace} (h : DataW.trod enc Try.prog W 0 (fun _ => true) true fuel 28 [c0, c1, c2, c3, c4, c5, c6, c7, c8, c9, c10] = some z) : ∃ (x : Lsa) (la : Option Addr) (lc : Nat) (sa : Option Addr) (sc : Nat), [c0, c1, c2, c3, c4, c5, c6, c7, c8, c9, c10] = [.int .i64 x.kind, .int .i64 x.area, .int .i64 x.origin, .int .u32 x.pa, .int .i64 x.pn, .int .i64 x.seq, .int .i64 x.age, .slice la x.links.length lc, .slice sa x.stubs.length sc, .int .i64 x.cost, .int .i64 x.tag] ∧ LsOk W x la sa ∧ (la = none → x.links.length = 0 ∧ lc = 0) ∧ (sa = none → x.stubs.length = 0 ∧ sc = 0) ∧ (x.links.length ≤ Rows.uptoBulk z.1 ∧ x.stubs.length ≤ Rows.uptoBulk z.1) ∧ ∀ e ∈ x.links, In64 e.2.1 := by
  obtain ⟨xs, n, -, hxd, hl, hlen, hf⟩ := DataW.trod_struct Try.underlying28 h
  have hlen' : xs.length = 10 := hlen
  have at_ : ∀ i, i < 10 → ∃ y, xs[i]? = some y := fun i hi => ⟨xs[i]'(by omega), List.getElem?_eq_getElem (by omega)⟩
  obtain ⟨y0, e0⟩ := at_ 0 (by decide)
  obtain ⟨y1, e1⟩ := at_ 1 (by decide)
  obtain ⟨y2, e2⟩ := at_ 2 (by decide)
  obtain ⟨y3, e3⟩ := at_ 3 (by decide)
  obtain ⟨y4, e4⟩ := at_ 4 (by decide)
  obtain ⟨y5, e5⟩ := at_ 5 (by decide)
  obtain ⟨y6, e6⟩ := at_ 6 (by decide)
  obtain ⟨y7, e7⟩ := at_ 7 (by decide)
  obtain ⟨y8, e8⟩ := at_ 8 (by decide)
  obtain ⟨y9, e9⟩ := at_ 9 (by decide)
  have g0 := (hf 0 _ rfl).trans e0
  have g1 := (hf 1 _ rfl).trans e1
  have g2 := (hf 2 _ rfl).trans e2
  have g3 := (hf 3 _ rfl).trans e3
  have g4 := (hf 4 _ rfl).trans e4
  have g5 := (hf 5 _ rfl).trans e5
  have g6 := (hf 6 _ rfl).trans e6
  have g7 := (hf 7 _ rfl).trans e7
  have g8 := (hf 8 _ rfl).trans e8
  have g9 := (hf 9 _ rfl).trans e9
  simp [cells64, cellsPf, cellsSL, cellsSS] at g0 g1 g2 g3 g4 g5 g6 g7 g8 g9
  obtain ⟨N0, h0, -, -⟩ := DataW.trod_int Try.underlying3 g0
  obtain ⟨N1, h1, -, -⟩ := DataW.trod_int Try.underlying3 g1
  obtain ⟨N2, h2, -, -⟩ := DataW.trod_int Try.underlying3 g2
  obtain ⟨z0, z1, n2, -, -, u0, u1⟩ := trod_struct2 Try.underlying24 g3
  simp [cells64, cells32] at u0 u1
  obtain ⟨N3, h3, -, hw⟩ := DataW.trod_int Try.underlying22 u0
  obtain ⟨N4, h4, -, -⟩ := DataW.trod_int Try.underlying3 u1
  obtain ⟨N5, h5, -, -⟩ := DataW.trod_int Try.underlying3 g4
  obtain ⟨N6, h6, -, -⟩ := DataW.trod_int Try.underlying3 g5
  obtain ⟨la, links, lc, rfl, hlk, h64, hbl, hnl⟩ := open_links2 g6
  obtain ⟨sa, stubs, sc, rfl, hst, hs32, hbs, hns⟩ := open_stubs2 g7
  obtain ⟨N9, h9, -, -⟩ := DataW.trod_int Try.underlying3 g8
  obtain ⟨N10, h10, -, -⟩ := DataW.trod_int Try.underlying3 g9
  simp at h0 h1 h2 h3 h4 h5 h6 h9 h10
  subst h0 h1 h2 h3 h4 h5 h6 h9 h10
  have hb := bounds_u32 hw
  have hmem : ∀ (i : Nat) (y : DataW H × List MemPlace), xs[i]? = some y → Rows.uptoBulk y.1 ≤ Rows.uptoBulk z.1 := fun i y hy => by
    have hd : z.1 = .agg (xs.map (·.1)) := congrArg Prod.fst hxd
    rw [hd]
    simp only [Rows.uptoBulk]
    have := bulk_mem (l := xs.map (·.1)) (z := y.1) (List.mem_map.2 ⟨y, List.mem_of_getElem? hy, rfl⟩)
    omega
  exact ⟨⟨N0, N1, N2, N3, N4, N5, N6, N9, N10, links, stubs⟩, la, lc, sa, sc, rfl, ⟨hlk, hst, ⟨hb.1, by have := hb.2; show N3 < _; omega⟩, hs32⟩, hnl, hns, ⟨Nat.le_trans hbl (hmem 6 y6 e6), Nat.le_trans hbs (hmem 7 y7 e7)⟩, h64⟩
set_option maxRecDepth 100000 in
theorem open_lsas2 {W : World} {n : Nat} {c : Value} {x : DataW H × List MemPlace} (h : DataW.trod enc Try.prog W 0 (fun _ => true) true n 34 [c] = some x) : ∃ (a : Option Addr) (xs : List Lsa) (cap : Nat), c = .slice a xs.length cap ∧ LAll W a xs ∧ NilOk W a xs ∧ (∀ y ∈ xs, y.links.length ≤ Rows.uptoBulk x.1 ∧ y.stubs.length ≤ Rows.uptoBulk x.1) ∧ (∀ y ∈ xs, ∀ e ∈ y.links, In64 e.2.1) ∧ xs.length ≤ Rows.uptoBulk x.1 := by
  rcases open_slice Try.underlying34 h with ⟨hc, -⟩ | ⟨ad, len, cap, m, k, D, Pl, hc, -, hl, hm, hmm, hx, hall⟩
  · simp at hc
    exact ⟨none, [], 0, hc, ⟨by simp, fun i hi => absurd hi (by simp)⟩, (fun i hi => absurd hi (by simp)), by simp, by simp, by simp⟩
  · simp at hc
    simp only [if_true] at hmm
    subst hmm
    have hblk : len ≤ Rows.uptoBulk x.1 := by
      rw [hx]
      simp only [Rows.uptoBulk]
      have h1 := many ((List.range len).map D)
      simp only [List.length_map, List.length_range] at h1
      omega
    have hbd : ∀ i, i < len → Rows.uptoBulk (D i) ≤ Rows.uptoBulk x.1 := fun i hi => by
      rw [hx]
      simp only [Rows.uptoBulk]
      have := bulk_mem (l := (List.range len).map D) (z := D i) (List.mem_map.2 ⟨i, List.mem_range.2 hi, rfl⟩)
      omega
    rw [cells28] at hall
    have each : ∀ i, i < m → ∃ q : LQ, (LsOk W q.x q.la q.sa ∧ (q.la = none → q.x.links.length = 0 ∧ q.lc = 0) ∧ (q.sa = none → q.x.stubs.length = 0 ∧ q.sc = 0) ∧ (q.x.links.length ≤ Rows.uptoBulk (D i) ∧ q.x.stubs.length ≤ Rows.uptoBulk (D i)) ∧ ∀ e ∈ q.x.links, In64 e.2.1) ∧ ∀ j v, [Value.int .i64 q.x.kind, .int .i64 q.x.area, .int .i64 q.x.origin, .int .u32 q.x.pa, .int .i64 q.x.pn, .int .i64 q.x.seq, .int .i64 q.x.age, .slice q.la q.x.links.length q.lc, .slice q.sa q.x.stubs.length q.sc, .int .i64 q.x.cost, .int .i64 q.x.tag][j]? = some v → W.cell? (ad.add (i * 11 + j)) = some v := fun i hi => by
      obtain ⟨cs', g, t⟩ := hall i hi
      obtain ⟨-, hlen, hcell⟩ := World.cells?_some g
      match cs', hlen with
      | [c0, c1, c2, c3, c4, c5, c6, c7, c8, c9, c10], _ =>
        obtain ⟨y, la, lc, sa, sc, he, hok⟩ := open_lsaC2 t
        refine ⟨⟨y, la, lc, sa, sc⟩, hok, fun j v hj => ?_⟩
        have hjl : j < 11 := by
          have := (List.getElem?_eq_some_iff.1 hj).1
          simpa using this
        have e0 := hcell j hjl
        rw [add_add] at e0
        rw [e0, he]
        exact hj
    haveI : Inhabited LQ := ⟨⟨⟨0, 0, 0, 0, 0, 0, 0, 0, 0, [], []⟩, none, 0, none, 0⟩⟩
    obtain ⟨q, hq⟩ := choose_lt each
    refine ⟨some ad, (List.range len).map (fun i => (q i).x), m, by simpa using hc, ⟨?_, ?_⟩, ?_, ?_, ?_, by simpa using hblk⟩
    · simp; unfold maxLen at hm; omega
    · intro i hi
      have hi' : i < len := by simpa using hi
      have hs : ad.spot = none := by simpa [Addr.add] using World.cell?_spot ((hq 0 (by omega)).2 0 _ rfl)
      obtain ⟨b, o, sp⟩ := ad
      obtain rfl : sp = none := hs
      obtain ⟨⟨hok, -⟩, hc2⟩ := hq i (by omega)
      have cc : ∀ j v, [Value.int .i64 (q i).x.kind, .int .i64 (q i).x.area, .int .i64 (q i).x.origin, .int .u32 (q i).x.pa, .int .i64 (q i).x.pn, .int .i64 (q i).x.seq, .int .i64 (q i).x.age, .slice (q i).la (q i).x.links.length (q i).lc, .slice (q i).sa (q i).x.stubs.length (q i).sc, .int .i64 (q i).x.cost, .int .i64 (q i).x.tag][j]? = some v → W.cell? ⟨b, o + i * 11 + j, none⟩ = some v := fun j v hj => by
        have := hc2 j v hj
        rw [Addr.add_lit] at this
        rw [Nat.add_assoc]
        exact this
      rw [show ((List.range len).map (fun i => (q i).x))[i] = (q i).x by simp]
      exact ⟨b, o, (q i).la, (q i).lc, (q i).sa, (q i).sc, rfl, lt_cell (cc 0 _ rfl), ⟨cc 0 _ rfl, cc 1 _ rfl, cc 2 _ rfl, cc 3 _ rfl, cc 4 _ rfl, cc 5 _ rfl, cc 6 _ rfl, cc 7 _ rfl, cc 8 _ rfl, cc 9 _ rfl, cc 10 _ rfl⟩, hok⟩
    · intro i hi b o la n lc hva hcl hnone
      have hi' : i < len := by simpa using hi
      cases hva
      obtain ⟨⟨-, hn1, hn2, -⟩, hc2⟩ := hq i (by omega)
      have c7 := hc2 7 _ rfl
      have c8 := hc2 8 _ rfl
      rw [Addr.add_lit, ← Nat.add_assoc] at c7 c8
      rcases hcl with e | e
      · rw [c7] at e
        cases e
        exact hn1 hnone
      · rw [c8] at e
        cases e
        exact hn2 hnone
    · intro y hy
      obtain ⟨i, hi, rfl⟩ := List.mem_map.1 hy
      have hi' := List.mem_range.1 hi
      have h1 := (hq i (by omega)).1.2.2.2.1
      have h2 := hbd i hi'
      exact ⟨Nat.le_trans h1.1 h2, Nat.le_trans h1.2 h2⟩
    · intro y hy
      obtain ⟨i, hi, rfl⟩ := List.mem_map.1 hy
      have hi' := List.mem_range.1 hi
      exact (hq i (by omega)).1.2.2.2.2
set_option maxRecDepth 100000 in
theorem open_packet2 {W : World} {r : Reach} {b0 : Nat} {v : Value} {d : DataW H} {p : List MemPlace} (hv : Value.okWide Try.prog W r b0 36 v) (h : DataW.Trod enc Try.prog W 0 (fun _ => true) true 36 v d p) : ∃ (kind frm area seen : Int) (xs : List Lsa) (va : Option Addr) (cap : Nat), v = pkV kind frm area seen va xs.length cap ∧ LAll W va xs ∧ NilOk W va xs ∧ (∀ y ∈ xs, y.links.length ≤ Rows.uptoBulk d ∧ y.stubs.length ≤ Rows.uptoBulk d) ∧ (∀ y ∈ xs, ∀ e ∈ y.links, In64 e.2.1) ∧ xs.length ≤ Rows.uptoBulk d := by
  obtain ⟨cs, rfl, hsz⟩ := okWide_struct Try.underlying36 hv
  obtain ⟨c0, c1, c2, c3, c4, rfl⟩ := array5 (hsz.trans cellsPk)
  obtain ⟨fuel, h⟩ := h
  obtain ⟨xs, n, -, hxd, hl, hlen, hf⟩ := DataW.trod_struct Try.underlying36 h
  have hlen' : xs.length = 5 := hlen
  have at_ : ∀ i, i < 5 → ∃ y, xs[i]? = some y := fun i hi => ⟨xs[i]'(by omega), List.getElem?_eq_getElem (by omega)⟩
  obtain ⟨y0, e0⟩ := at_ 0 (by decide)
  obtain ⟨y1, e1⟩ := at_ 1 (by decide)
  obtain ⟨y2, e2⟩ := at_ 2 (by decide)
  obtain ⟨y3, e3⟩ := at_ 3 (by decide)
  obtain ⟨y4, e4⟩ := at_ 4 (by decide)
  have g0 := (hf 0 _ rfl).trans e0
  have g1 := (hf 1 _ rfl).trans e1
  have g2 := (hf 2 _ rfl).trans e2
  have g3 := (hf 3 _ rfl).trans e3
  have g4 := (hf 4 _ rfl).trans e4
  simp [Value.cells, cells64, cellsSA] at g0 g1 g2 g3 g4
  obtain ⟨N0, h0, -, -⟩ := DataW.trod_int Try.underlying3 g0
  obtain ⟨N1, h1, -, -⟩ := DataW.trod_int Try.underlying3 g1
  obtain ⟨N2, h2, -, -⟩ := DataW.trod_int Try.underlying3 g2
  obtain ⟨N3, h3, -, -⟩ := DataW.trod_int Try.underlying3 g3
  obtain ⟨va, ls, cap, rfl, hal, hnil, hbg, h64, hln⟩ := open_lsas2 g4
  simp at h0 h1 h2 h3
  subst h0 h1 h2 h3
  have hmem : Rows.uptoBulk y4.1 ≤ Rows.uptoBulk d := by
    have hd : d = .agg (xs.map (·.1)) := congrArg Prod.fst hxd
    rw [hd]
    simp only [Rows.uptoBulk]
    have := bulk_mem (l := xs.map (·.1)) (z := y4.1) (List.mem_map.2 ⟨y4, List.mem_of_getElem? e4, rfl⟩)
    omega
  exact ⟨N0, N1, N2, N3, ls, va, cap, rfl, hal, hnil, fun y hy => ⟨Nat.le_trans (hbg y hy).1 hmem, Nat.le_trans (hbg y hy).2 hmem⟩, h64, Nat.le_trans hln hmem⟩
set_option maxRecDepth 100000 in
theorem open_bytes2 {W : World} {a : Option Addr} {len cap : Nat} {d : DataW H} {p : List MemPlace} (h : DataW.Trod enc Try.prog W 0 (fun _ => true) true 37 (.slice a len cap) d p) : ∃ bs : List Nat, bs.length = len ∧ len ≤ cap ∧ By W a bs ∧ len ≤ Rows.uptoBulk d ∧ (a = none → len = 0 ∧ cap = 0) := by
  obtain ⟨n, h⟩ := h
  rcases open_slice Try.underlying37 h with ⟨hc, -⟩ | ⟨ad, len', cap', m, k, D, Pl, hc, -, hl, hm, hmm, hx, hall⟩
  · simp [Value.cells] at hc
    obtain ⟨rfl, rfl, rfl⟩ := hc
    exact ⟨[], rfl, Nat.le_refl _, ⟨by simp, fun i hi => absurd hi (by simp), fun d hd => by cases hd⟩, by simp, fun _ => ⟨rfl, rfl⟩⟩
  · simp [Value.cells] at hc
    obtain ⟨rfl, rfl, rfl⟩ := hc
    simp only [if_true] at hmm
    subst hmm
    have hblk : len ≤ Rows.uptoBulk d := by
      have hd : d = _ := congrArg Prod.fst hx
      rw [hd]
      simp only [Rows.uptoBulk]
      have h1 := many ((List.range len).map D)
      simp only [List.length_map, List.length_range] at h1
      omega
    rw [cells8] at hall
    have each : ∀ i, i < m → ∃ q : Nat, q < 256 ∧ W.cell? (ad.add i) = some (.int .u8 (q : Int)) := fun i hi => by
      obtain ⟨cs', g, t⟩ := hall i hi
      obtain ⟨-, hlen, hcell⟩ := World.cells?_some g
      have e0 := hcell 0 (by omega)
      rw [add_add] at e0
      match cs', hlen with
      | [c0], _ =>
        obtain ⟨N0, h0, -, hw⟩ := DataW.trod_int Try.underlying5 t
        simp at h0
        subst h0
        have hb := bounds_u8 hw
        refine ⟨N0.toNat, by omega, ?_⟩
        rw [Int.toNat_of_nonneg hb.1]
        simpa using e0
    obtain ⟨q, hq⟩ := choose_lt each
    refine ⟨(List.range len).map q, by simp, hl, ⟨?_, ?_, ?_⟩, hblk, fun e => by cases e⟩
    · simp; unfold maxLen at hm; omega
    · intro i hi
      have hi' : i < len := by simpa using hi
      obtain ⟨-, g0⟩ := hq i (by omega)
      have hs : ad.spot = none := by simpa [Addr.add] using World.cell?_spot (hq 0 (by omega)).2
      obtain ⟨b, o, sp⟩ := ad
      obtain rfl : sp = none := hs
      have g0' : W.cell? ⟨b, o + i, none⟩ = some (.int .u8 (q i : Int)) := by simpa [Addr.add_lit] using g0
      exact ⟨b, o, rfl, lt_cell g0', by rw [g0']; simp⟩
    · intro d hd
      obtain ⟨i, hi, rfl⟩ := List.mem_map.1 hd
      exact (hq i (by have := List.mem_range.1 hi; omega)).1
end
end Go.Proofs.Ytagfdmkgnedlbae.Ls
