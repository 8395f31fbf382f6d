/- Offers that come in, opened. -/
import Derived.Test.YtkahjibdmhaglaaChB
import Derived.Test.YtkahjibdmhaglaaRows
import Derived.Lib.SmallJoins
import Derived.Deep.Slices
import Derived.Deep.Strs
import Derived.Carry
namespace Go.Proofs.Ytkahjibdmhaglaa.Ch
open Go.ChangeShapes Go.WideShapes Go.ChangeAt Go.RowKit Go.Joins Go.Deep Go.Proofs.Ytkahjibdmhaglaa.Ge
set_option linter.unusedVariables false

theorem cellsOf : Try.prog.cellsOf 35 = 13 := by kernel_rfl
theorem cellsRt : Try.prog.cellsOf 33 = 10 := by kernel_rfl
theorem cellsPf : Try.prog.cellsOf 31 = 2 := by kernel_rfl
theorem cells64 : Try.prog.cellsOf 3 = 1 := by kernel_rfl
theorem cells32 : Try.prog.cellsOf 29 = 1 := by kernel_rfl
theorem cellsB : Try.prog.cellsOf 4 = 1 := by kernel_rfl
theorem cellsSI : Try.prog.cellsOf 24 = 1 := by kernel_rfl
theorem array13 {cs : Array Value} (h : cs.size = 13) : ∃ c0 c1 c2 c3 c4 c5 c6 c7 c8 c9 c10 c11 c12, cs = #[c0, c1, c2, c3, c4, c5, c6, c7, c8, c9, c10, c11, c12] := by
  obtain ⟨l⟩ := cs
  match l, h with
  | [c0, c1, c2, c3, c4, c5, c6, c7, c8, c9, c10, c11, c12], _ => exact ⟨c0, c1, c2, c3, c4, c5, c6, c7, c8, c9, c10, c11, c12, rfl⟩
/-- an offer that came in -/
structure OfOk (W : World) (B : Nat) (x : Of) (s : Oa) : Prop where
  kp : Lst EI W s.p x.path
  km : Lst EI W s.m x.marks
  kc : Lst EI W s.c x.clus
  np : s.p = none → x.path.length = 0 ∧ s.pc = 0
  nm : s.m = none → x.marks.length = 0 ∧ s.mc = 0
  nc : s.c = none → x.clus.length = 0 ∧ s.cc = 0
  bp : x.path.length ≤ B
  bm : x.marks.length ≤ B
  bc : x.clus.length ≤ B
  org : -9223372036854775808 ≤ x.org ∧ x.org < 9223372036854775808
  pref : -9223372036854775808 ≤ x.pref ∧ x.pref < 9223372036854775808
theorem OfOk.mono {W : World} {B B' : Nat} {x : Of} {s : Oa} (h : OfOk W B x s) (hb : B ≤ B') : OfOk W B' x s := ⟨h.kp, h.km, h.kc, h.np, h.nm, h.nc, Nat.le_trans h.bp hb, Nat.le_trans h.bm hb, Nat.le_trans h.bc hb, h.org, h.pref⟩
section
variable {H : Type}
theorem weighs (d : DataW H) : 1 ≤ Rows.uptoBulk d := by
  cases d with
  | lit l => cases l <;> simp [Rows.uptoBulk]
  | _ => simp [Rows.uptoBulk]
theorem many (l : List (DataW H)) : l.length ≤ Rows.uptoBulkAll l := by
  induction l with
  | nil => simp
  | cons x r ih => have := weighs x; simp only [Rows.uptoBulkAll, List.length_cons]; omega
theorem bulk_mem {l : List (DataW H)} {z : DataW H} (h : z ∈ l) : Rows.uptoBulk z ≤ Rows.uptoBulkAll l := by
  induction l with
  | nil => cases h
  | cons x r ih =>
    simp only [Rows.uptoBulkAll]
    rcases List.mem_cons.1 h with rfl | h
    · omega
    · have := ih h; omega
end
section
variable {H : Type} {enc : TypeId × Value → H}
theorem lt_cell {W : World} {b o : Nat} {v : Value} (h : W.cell? ⟨b, o, none⟩ = some v) : b < W.heap.size := World.block_lt_of_cell? W _ h
set_option maxRecDepth 100000 in
theorem open_nums {W : World} {n : Nat} {c : Value} {x : DataW H × List MemPlace} (h : DataW.trod enc Try.prog W 0 (fun _ => true) true n 24 [c] = some x) : ∃ (a : Option Addr) (xs : List Int) (cap : Nat), c = .slice a xs.length cap ∧ Lst EI W a xs ∧ (a = none → xs.length = 0 ∧ cap = 0) ∧ xs.length ≤ Rows.uptoBulk x.1 := by
  rcases open_slice Try.underlying24 h with ⟨hc, -⟩ | ⟨ad, len, cap, m, k, D, Pl, hc, -, hl, hm, hmm, hx, hall⟩
  · simp at hc
    exact ⟨none, [], 0, hc, ⟨by simp, fun i hi => absurd hi (by simp)⟩, by simp, by simp⟩
  · simp at hc
    simp only [if_true] at hmm
    subst hmm
    have hblk : len ≤ Rows.uptoBulk x.1 := by
      rw [hx]
      simp only [Rows.uptoBulk]
      have h1 := many ((List.range len).map D)
      simp only [List.length_map, List.length_range] at h1
      omega
    rw [cells64] at hall
    have each : ∀ i, i < m → ∃ q : Int, W.cell? (ad.add (i * 1)) = some (.int .i64 q) := fun i hi => by
      obtain ⟨cs', g, t⟩ := hall i hi
      obtain ⟨-, hlen, hcell⟩ := World.cells?_some g
      have e0 := hcell 0 (by omega)
      rw [add_add] at e0
      obtain ⟨N0, h0, -, -⟩ := DataW.trod_int Try.underlying3 t
      subst h0
      exact ⟨N0, by simpa using e0⟩
    obtain ⟨q, hq⟩ := choose_lt each
    refine ⟨some ad, (List.range len).map q, m, by simpa using hc, ⟨?_, ?_⟩, (fun c => by cases c), by simpa using hblk⟩
    · simp; unfold maxLen at hm; omega
    · intro i hi
      have hi' : i < len := by simpa using hi
      have g0 := hq i (by omega)
      have hs : ad.spot = none := by simpa [Addr.add] using World.cell?_spot (hq 0 (by omega))
      obtain ⟨b, o, sp⟩ := ad
      obtain rfl : sp = none := hs
      have g0' : W.cell? ⟨b, o + i, none⟩ = some (.int .i64 (q i)) := by simpa [Addr.add_lit] using g0
      refine ⟨b, o, rfl, lt_cell g0', fun j hj => ?_⟩
      have hj2 : j < 1 := hj
      obtain rfl : j = 0 := by omega
      show W.cell? ⟨b, o + i * 1 + 0, none⟩ = _
      rw [Nat.mul_one, Nat.add_zero, g0']
      simp [EI]
set_option maxRecDepth 100000 in
set_option maxHeartbeats 2000000 in
theorem open_ofC {W : World} {fuel : Nat} {c0 c1 c2 c3 c4 c5 c6 c7 c8 c9 c10 c11 c12 : Value} {x : DataW H × List MemPlace} (h : DataW.trod enc Try.prog W 0 (fun _ => true) true fuel 35 [c0, c1, c2, c3, c4, c5, c6, c7, c8, c9, c10, c11, c12] = some x) : ∃ (m : Of) (s : Oa), [c0, c1, c2, c3, c4, c5, c6, c7, c8, c9, c10, c11, c12] = ofL m s ∧ OfOk W (Rows.uptoBulk x.1) m s := by
  obtain ⟨xs, n, -, HXD, hl, hlen, hf⟩ := DataW.trod_struct Try.underlying35 h
  have hd : x.1 = .agg (xs.map (·.1)) := congrArg Prod.fst HXD
  have bm : ∀ {i : Nat} {y : DataW H × List MemPlace}, xs[i]? = some y → Rows.uptoBulk y.1 ≤ Rows.uptoBulk x.1 := fun {i y} hy => by
    have := bulk_mem (l := xs.map (·.1)) (z := y.1) (List.mem_map.2 ⟨y, List.mem_of_getElem? hy, rfl⟩)
    rw [hd]
    simp only [Rows.uptoBulk]
    omega
  have hlen' : xs.length = 4 := hlen
  have at_ : ∀ i, i < 4 → ∃ y, xs[i]? = some y := fun i hi => ⟨xs[i]'(by omega), List.getElem?_eq_getElem (by omega)⟩
  obtain ⟨y0, e0⟩ := at_ 0 (by decide)
  obtain ⟨y1, e1⟩ := at_ 1 (by decide)
  obtain ⟨y2, e2⟩ := at_ 2 (by decide)
  obtain ⟨y3, e3⟩ := at_ 3 (by decide)
  have g0 := (hf 0 _ rfl).trans e0
  have g1 := (hf 1 _ rfl).trans e1
  have g2 := (hf 2 _ rfl).trans e2
  have g3 := (hf 3 _ rfl).trans e3
  simp [cells64, cellsB, cellsRt] at g0 g1 g2 g3
  obtain ⟨zs, n2, -, hzd, hl2, hlen2, hf2⟩ := DataW.trod_struct Try.underlying33 g0
  have hd2 : y0.1 = .agg (zs.map (·.1)) := congrArg Prod.fst hzd
  have bm2 : ∀ {i : Nat} {y : DataW H × List MemPlace}, zs[i]? = some y → Rows.uptoBulk y.1 ≤ Rows.uptoBulk x.1 := fun {i y} hy => by
    have h1 := bm e0
    have := bulk_mem (l := zs.map (·.1)) (z := y.1) (List.mem_map.2 ⟨y, List.mem_of_getElem? hy, rfl⟩)
    rw [hd2] at h1
    simp only [Rows.uptoBulk] at h1
    omega
  have hlen2' : zs.length = 9 := hlen2
  have at2 : ∀ i, i < 9 → ∃ y, zs[i]? = some y := fun i hi => ⟨zs[i]'(by omega), List.getElem?_eq_getElem (by omega)⟩
  obtain ⟨t0, f0⟩ := at2 0 (by decide)
  obtain ⟨t1, f1⟩ := at2 1 (by decide)
  obtain ⟨t2, f2⟩ := at2 2 (by decide)
  obtain ⟨t3, f3⟩ := at2 3 (by decide)
  obtain ⟨t4, f4⟩ := at2 4 (by decide)
  obtain ⟨t5, f5⟩ := at2 5 (by decide)
  obtain ⟨t6, f6⟩ := at2 6 (by decide)
  obtain ⟨t7, f7⟩ := at2 7 (by decide)
  obtain ⟨t8, f8⟩ := at2 8 (by decide)
  have k0 := (hf2 0 _ rfl).trans f0
  have k1 := (hf2 1 _ rfl).trans f1
  have k2 := (hf2 2 _ rfl).trans f2
  have k3 := (hf2 3 _ rfl).trans f3
  have k4 := (hf2 4 _ rfl).trans f4
  have k5 := (hf2 5 _ rfl).trans f5
  have k6 := (hf2 6 _ rfl).trans f6
  have k7 := (hf2 7 _ rfl).trans f7
  have k8 := (hf2 8 _ rfl).trans f8
  simp [cells64, cells32, cellsPf, cellsSI] at k0 k1 k2 k3 k4 k5 k6 k7 k8
  obtain ⟨w0, w1, n3, -, -, u0, u1⟩ := trod_struct2 Try.underlying31 k0
  simp [cells64, cells32] at u0 u1
  obtain ⟨P0, p0, -, -⟩ := DataW.trod_int Try.underlying29 u0
  obtain ⟨P1, p1, -, -⟩ := DataW.trod_int Try.underlying3 u1
  obtain ⟨pa, path, pc, q1, kp, pn, pbu⟩ := open_nums k1
  obtain ⟨R2, r2, -, h2⟩ := DataW.trod_int Try.underlying3 k2
  obtain ⟨R3, r3, -, h3⟩ := DataW.trod_int Try.underlying3 k3
  obtain ⟨R4, r4, -, -⟩ := DataW.trod_int Try.underlying3 k4
  obtain ⟨R5, r5, -, -⟩ := DataW.trod_int Try.underlying29 k5
  obtain ⟨ma, marks, mc, q6, km, mn, mbu⟩ := open_nums k6
  obtain ⟨ca, clus, cc, q7, kc, cn, cbu⟩ := open_nums k7
  obtain ⟨R8, r8, -, -⟩ := DataW.trod_int Try.underlying3 k8
  obtain ⟨Pe, pe, -, -⟩ := DataW.trod_int Try.underlying3 g1
  obtain ⟨In, in_, -⟩ := DataW.trod_bool Try.underlying4 g2
  obtain ⟨Co, co, -, -⟩ := DataW.trod_int Try.underlying3 g3
  simp at p0 p1 r2 r3 r4 r5 r8 pe in_ co
  subst p0 p1 q1 r2 r3 r4 r5 q6 q7 r8 pe in_ co
  have b2 := bounds_i64 h2
  have b3 := bounds_i64 h3
  have b1 := bm2 f1
  have b6 := bm2 f6
  have b7 := bm2 f7
  exact ⟨⟨P0, P1, path, R2, R3, R4, R5, marks, clus, R8, Pe, In, Co⟩, ⟨pa, pc, ma, mc, ca, cc⟩, rfl, ⟨kp, km, kc, pn, mn, cn, Nat.le_trans pbu b1, Nat.le_trans mbu b6, Nat.le_trans cbu b7, ⟨by show _ ≤ R2; omega, by show R2 < _; omega⟩, ⟨by show _ ≤ R3; omega, by show R3 < _; omega⟩⟩⟩
set_option maxRecDepth 100000 in
theorem open_of {W : World} {r : Reach} {b0 : Nat} {v : Value} {d : DataW H} {p : List MemPlace} (hv : Value.okWide Try.prog W r b0 35 v) (h : DataW.Trod enc Try.prog W 0 (fun _ => true) true 35 v d p) : ∃ (m : Of) (s : Oa), v = .agg (ofL m s).toArray ∧ OfOk W (Rows.uptoBulk d) m s := by
  obtain ⟨cs, rfl, hsz⟩ := okWide_struct Try.underlying35 hv
  obtain ⟨c0, c1, c2, c3, c4, c5, c6, c7, c8, c9, c10, c11, c12, rfl⟩ := array13 (hsz.trans cellsOf)
  obtain ⟨fuel, h⟩ := h
  obtain ⟨m, s, e, hok⟩ := open_ofC (x := (d, p)) h
  exact ⟨m, s, by rw [← e], hok⟩
set_option maxRecDepth 100000 in
theorem open_ofs {W : World} {a : Option Addr} {len cap : Nat} {d : DataW H} {p : List MemPlace} (h : DataW.Trod enc Try.prog W 0 (fun _ => true) true 22 (.slice a len cap) d p) : ∃ xs : List (Of × Oa), xs.length = len ∧ Gm.Lst EO W a xs ∧ (∀ q ∈ xs, OfOk W (Rows.uptoBulk d) q.1 q.2) ∧ (a = none → len = 0 ∧ cap = 0) ∧ len ≤ cap ∧ cap ≤ maxLen := by
  obtain ⟨n, h⟩ := h
  rcases open_slice Try.underlying22 h with ⟨hc, -⟩ | ⟨ad, len', cap', m, k, D, Pl, hc, -, hl, hm, hmm, hx, hall⟩
  · simp [Value.cells] at hc
    obtain ⟨rfl, rfl, rfl⟩ := hc
    exact ⟨[], rfl, ⟨by simp, fun i hi => absurd hi (by simp)⟩, by simp, fun _ => ⟨rfl, rfl⟩, Nat.le_refl _, Nat.zero_le _⟩
  · simp [Value.cells] at hc
    obtain ⟨rfl, rfl, rfl⟩ := hc
    simp only [if_true] at hmm
    subst hmm
    have hdx : d = _ := congrArg Prod.fst hx
    have hbk : ∀ i, i < len → Rows.uptoBulk (D i) ≤ Rows.uptoBulk d := fun i hi => by
      rw [hdx]
      simp only [Rows.uptoBulk]
      have h1 := bulk_mem (l := (List.range len).map D) (z := D i) (List.mem_map.2 ⟨i, List.mem_range.2 hi, rfl⟩)
      omega
    rw [cellsOf] at hall
    have each : ∀ i, i < m → ∃ q : Of × Oa, OfOk W (Rows.uptoBulk (D i)) q.1 q.2 ∧ ∀ j v, (ofL q.1 q.2)[j]? = some v → W.cell? (ad.add (i * 13 + j)) = some v := fun i hi => by
      obtain ⟨cs', g, t⟩ := hall i hi
      obtain ⟨-, hlen, hcell⟩ := World.cells?_some g
      match cs', hlen with
      | [c0, c1, c2, c3, c4, c5, c6, c7, c8, c9, c10, c11, c12], _ =>
        obtain ⟨y, s, he, hok⟩ := open_ofC t
        refine ⟨(y, s), hok, fun j v hj => ?_⟩
        have hjl : j < 13 := by
          have := (List.getElem?_eq_some_iff.1 hj).1
          simpa [ofL] using this
        have e0 := hcell j hjl
        rw [add_add] at e0
        rw [e0, he]
        exact hj
    haveI : Inhabited (Of × Oa) := ⟨(⟨0, 0, [], 0, 0, 0, 0, [], [], 0, 0, false, 0⟩, ⟨none, 0, none, 0, none, 0⟩)⟩
    obtain ⟨q, hq⟩ := choose_lt each
    refine ⟨(List.range len).map q, by simp, ⟨?_, ?_⟩, ?_, (fun c => by cases c), hl, hm⟩
    · simp; unfold maxLen at hm; omega
    · intro i hi
      have hi' : i < len := by simpa using hi
      have hs : ad.spot = none := by simpa [Addr.add] using World.cell?_spot ((hq 0 (by omega)).2 0 _ rfl)
      obtain ⟨b, o, sp⟩ := ad
      obtain rfl : sp = none := hs
      obtain ⟨hok, hc2⟩ := hq i (by omega)
      have cc : ∀ j v, (ofL (q i).1 (q i).2)[j]? = some v → W.cell? ⟨b, o + i * 13 + j, none⟩ = some v := fun j v hj => by
        have := hc2 j v hj
        rw [Addr.add_lit] at this
        rw [Nat.add_assoc]
        exact this
      refine ⟨b, o, rfl, lt_cell (cc 0 _ rfl), fun j hj => ?_⟩
      have hj13 : j < (ofL (q i).1 (q i).2).length := hj
      have e5 : ((List.range len).map q)[i] = q i := by simp
      rw [e5]
      show W.cell? ⟨b, o + i * 13 + j, none⟩ = (ofL (q i).1 (q i).2)[j]?
      rw [List.getElem?_eq_getElem hj13]
      exact cc j _ (List.getElem?_eq_getElem hj13)
    · intro y hy
      obtain ⟨i, hi, rfl⟩ := List.mem_map.1 hy
      have hi' := List.mem_range.1 hi
      exact (hq i (by omega)).1.mono (hbk i hi')
end
end Go.Proofs.Ytkahjibdmhaglaa.Ch
