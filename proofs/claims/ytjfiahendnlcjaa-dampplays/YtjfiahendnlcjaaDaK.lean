/- The damper's steps and configs that come in. -/
import Derived.Test.YtjfiahendnlcjaaDaH
import Derived.Lib.SmallJoins
import Derived.Deep.Slices
import Derived.Deep.Strs
import Derived.Carry
import Derived.OpenShut
namespace Go.Proofs.Ytjfiahendnlcjaa.Da
open Go.ChangeShapes Go.WideShapes Go.ChangeAt Go.RowKit Go.Joins Go.Deep Go.Proofs.Ytjfiahendnlcjaa.Ge Go.Proofs.Ytjfiahendnlcjaa.PM Go.Proofs.Ytjfiahendnlcjaa.Ask
set_option linter.unusedVariables false
set_option linter.unusedSimpArgs false
/-- a step -/
structure Ds where
  d : Int
  p : Pf
  what : Int
  wt : Int
def dsL (x : Ds) : List Value := [.int .i64 x.d, .int .u32 x.p.1, .int .i64 x.p.2, .int .i64 x.what, .int .i64 x.wt]
def DsK : Sk := ⟨37, 5, _, Try.underlying37, rfl, by kernel_rfl⟩
def ED : El Ds := ⟨37, 24, 5, 40, .agg #[.int .i64 0, .int .u32 0, .int .i64 0, .int .i64 0, .int .i64 0], dsL, by decide, by decide, fun _ => rfl, fun x u hu => by simp [dsL] at hu; rcases hu with rfl | rfl | rfl | rfl | rfl <;> rfl, Try.underlying24, by kernel_rfl, rfl⟩
def DsOk (x : Ds) : Prop := (0 ≤ x.p.1 ∧ x.p.1 < 4294967296) ∧ (-9223372036854775808 ≤ x.wt ∧ x.wt < 9223372036854775808)
theorem lstD {w : World} {a : Option Addr} {l : List Ds} (h : Lst ED w a l) (i : Nat) (hi : i < l.length) : ∃ b o, a = some ⟨b, o, none⟩ ∧ b < w.heap.size ∧ ∀ j, j < 5 → w.cell? ⟨b, o + i * 5 + j, none⟩ = (dsL l[i])[j]? := h.cells i hi
theorem dsnew_run {o : Oper} {ρ : Operand → Value} {W : World} (ho : o.op = .alloc 37) : (execOp ρ o).run Try.prog W = .ok (.value (.pointer (some ⟨W.heap.size, 0, none⟩))) (W.alloc (Obj.cells (dsL ⟨0, (0, 0), 0, 0⟩).toArray 37)) := by
  unfold execOp
  rw [ho]
  simp [go_sem, dsL]
theorem list_dsnew {ops : Array Oper} {rest : List Oper} {o : Oper} {ac : Act} {Q : Exit → Act → World → Prop} {W : World} (hgd : o.guard = none) (ho : o.op = .alloc 37)
    (k : ∀ b W', Hid (W.heap.size = b) → Hid (SB DsK b (dsL ⟨0, (0, 0), 0, 0⟩) W') → Hid (Below W.heap.size W W') → wpList Try.prog ops Q rest (ac.put o.dst (.pointer (some ⟨b, 0, none⟩))) W') : wpList Try.prog ops Q (o :: rest) ac W := by
  refine wpList_plain hgd fun K hK => ?_
  unfold Oper.wp
  rw [dsnew_run ho]
  exact hK _ _ (k _ _ rfl (World.alloc_heap_new W _) ((Below.refl _ W).alloc (Nat.le_refl _) _))
theorem cellsPf : Try.prog.cellsOf 35 = 2 := by kernel_rfl
theorem cells64 : Try.prog.cellsOf 3 = 1 := by kernel_rfl
theorem cells32 : Try.prog.cellsOf 33 = 1 := by kernel_rfl
theorem cellsDs : Try.prog.cellsOf 37 = 5 := by kernel_rfl
theorem cellsCg : Try.prog.cellsOf 23 = 6 := by kernel_rfl
theorem array6 {cs : Array Value} (h : cs.size = 6) : ∃ c0 c1 c2 c3 c4 c5, cs = #[c0, c1, c2, c3, c4, c5] := by
  obtain ⟨l⟩ := cs
  match l, h with
  | [c0, c1, c2, c3, c4, c5], _ => exact ⟨c0, c1, c2, c3, c4, c5, rfl⟩
section
variable {H : Type} {enc : TypeId × Value → H}
theorem lt_cell {W : World} {b o : Nat} {v : Value} (h : W.cell? ⟨b, o, none⟩ = some v) : b < W.heap.size := World.block_lt_of_cell? W _ h
set_option maxRecDepth 100000 in
set_option maxHeartbeats 2000000 in
theorem open_dcfg {W : World} {r : Reach} {b0 : Nat} {v : Value} {d : DataW H} {p : List MemPlace} (hv : Value.okWide Try.prog W r b0 23 v) (h : DataW.Trod enc Try.prog W 0 (fun _ => true) true 23 v d p) : ∃ a b c e f g : Int, v = .agg (cgL a b c e f g).toArray := by
  obtain ⟨cs, rfl, hsz⟩ := okWide_struct Try.underlying23 hv
  obtain ⟨c0, c1, c2, c3, c4, c5, rfl⟩ := array6 (hsz.trans cellsCg)
  obtain ⟨fuel, h⟩ := h
  obtain ⟨xs, n, -, HXD, hl, hlen, hf⟩ := DataW.trod_struct Try.underlying23 h
  have hlen' : xs.length = 6 := hlen
  have at_ : ∀ i, i < 6 → ∃ y, xs[i]? = some y := fun i hi => ⟨xs[i]'(by omega), List.getElem?_eq_getElem (by omega)⟩
  obtain ⟨y0, e0⟩ := at_ 0 (by decide)
  obtain ⟨y1, e1⟩ := at_ 1 (by decide)
  obtain ⟨y2, e2⟩ := at_ 2 (by decide)
  obtain ⟨y3, e3⟩ := at_ 3 (by decide)
  obtain ⟨y4, e4⟩ := at_ 4 (by decide)
  obtain ⟨y5, e5⟩ := at_ 5 (by decide)
  have g0 := (hf 0 _ rfl).trans e0
  have g1 := (hf 1 _ rfl).trans e1
  have g2 := (hf 2 _ rfl).trans e2
  have g3 := (hf 3 _ rfl).trans e3
  have g4 := (hf 4 _ rfl).trans e4
  have g5 := (hf 5 _ rfl).trans e5
  simp [Value.cells, cells64] at g0 g1 g2 g3 g4 g5
  obtain ⟨N0, h0, -, -⟩ := DataW.trod_int Try.underlying3 g0
  obtain ⟨N1, h1, -, -⟩ := DataW.trod_int Try.underlying3 g1
  obtain ⟨N2, h2, -, -⟩ := DataW.trod_int Try.underlying3 g2
  obtain ⟨N3, h3, -, -⟩ := DataW.trod_int Try.underlying3 g3
  obtain ⟨N4, h4, -, -⟩ := DataW.trod_int Try.underlying3 g4
  obtain ⟨N5, h5, -, -⟩ := DataW.trod_int Try.underlying3 g5
  simp at h0 h1 h2 h3 h4 h5
  subst h0 h1 h2 h3 h4 h5
  exact ⟨N0, N1, N2, N3, N4, N5, rfl⟩
set_option maxRecDepth 100000 in
set_option maxHeartbeats 2000000 in
theorem open_dsC {W : World} {fuel : Nat} {c0 c1 c2 c3 c4 : Value} {x : DataW H × List MemPlace} (h : DataW.trod enc Try.prog W 0 (fun _ => true) true fuel 37 [c0, c1, c2, c3, c4] = some x) : ∃ q : Ds, [c0, c1, c2, c3, c4] = dsL q ∧ DsOk q := by
  obtain ⟨xs, n, -, HXD, hl, hlen, hf⟩ := DataW.trod_struct Try.underlying37 h
  have hlen' : xs.length = 4 := hlen
  have at_ : ∀ i, i < 4 → ∃ y, xs[i]? = some y := fun i hi => ⟨xs[i]'(by omega), List.getElem?_eq_getElem (by omega)⟩
  obtain ⟨y0, e0⟩ := at_ 0 (by decide)
  obtain ⟨y1, e1⟩ := at_ 1 (by decide)
  obtain ⟨y2, e2⟩ := at_ 2 (by decide)
  obtain ⟨y3, e3⟩ := at_ 3 (by decide)
  have g0 := (hf 0 _ rfl).trans e0
  have g1 := (hf 1 _ rfl).trans e1
  have g2 := (hf 2 _ rfl).trans e2
  have g3 := (hf 3 _ rfl).trans e3
  simp [cells64, cellsPf] at g0 g1 g2 g3
  obtain ⟨N0, h0, -, -⟩ := DataW.trod_int Try.underlying3 g0
  obtain ⟨w0, w1, n3, -, -, u0, u1⟩ := trod_struct2 Try.underlying35 g1
  simp [cells64, cells32] at u0 u1
  obtain ⟨P0, p0, -, hw⟩ := DataW.trod_int Try.underlying33 u0
  obtain ⟨P1, p1, -, -⟩ := DataW.trod_int Try.underlying3 u1
  obtain ⟨N2, h2, -, -⟩ := DataW.trod_int Try.underlying3 g2
  obtain ⟨N3, h3, -, hw3⟩ := DataW.trod_int Try.underlying3 g3
  simp at h0 p0 p1 h2 h3
  subst h0 p0 p1 h2 h3
  have hb := bounds_u32 hw
  have hb3 := bounds_i64 hw3
  exact ⟨⟨N0, (P0, P1), N2, N3⟩, rfl, ⟨⟨by show 0 ≤ P0; omega, by show P0 < _; omega⟩, ⟨by show _ ≤ N3; omega, by show N3 < _; omega⟩⟩⟩
set_option maxRecDepth 100000 in
theorem open_dss {W : World} {a : Option Addr} {len cap : Nat} {d : DataW H} {p : List MemPlace} (h : DataW.Trod enc Try.prog W 0 (fun _ => true) true 24 (.slice a len cap) d p) : ∃ xs : List Ds, xs.length = len ∧ Lst ED W a xs ∧ (∀ q ∈ xs, DsOk q) := by
  obtain ⟨n, h⟩ := h
  rcases open_slice Try.underlying24 h with ⟨hc, -⟩ | ⟨ad, len', cap', m, k, D, Pl, hc, -, hl, hm, hmm, hx, hall⟩
  · simp [Value.cells] at hc
    obtain ⟨rfl, rfl, rfl⟩ := hc
    exact ⟨[], rfl, ⟨by simp, fun i hi => absurd hi (by simp)⟩, by simp⟩
  · simp [Value.cells] at hc
    obtain ⟨rfl, rfl, rfl⟩ := hc
    simp only [if_true] at hmm
    subst hmm
    rw [cellsDs] at hall
    have each : ∀ i, i < m → ∃ q : Ds, DsOk q ∧ ∀ j v, (dsL q)[j]? = some v → W.cell? (ad.add (i * 5 + j)) = some v := fun i hi => by
      obtain ⟨cs', g, t⟩ := hall i hi
      obtain ⟨-, hlen, hcell⟩ := World.cells?_some g
      match cs', hlen with
      | [c0, c1, c2, c3, c4], _ =>
        obtain ⟨q, he, hok⟩ := open_dsC t
        refine ⟨q, hok, fun j v hj => ?_⟩
        have hjl : j < 5 := (List.getElem?_eq_some_iff.1 hj).1
        have e0 := hcell j hjl
        rw [add_add] at e0
        rw [e0, he]
        exact hj
    haveI : Inhabited Ds := ⟨⟨0, (0, 0), 0, 0⟩⟩
    obtain ⟨q, hq⟩ := choose_lt each
    refine ⟨(List.range len).map q, by simp, ⟨?_, ?_⟩, ?_⟩
    · simp; unfold maxLen at hm; omega
    · intro i hi
      have hi' : i < len := by simpa using hi
      have hs : ad.spot = none := by simpa [Addr.add] using World.cell?_spot ((hq 0 (by omega)).2 0 _ rfl)
      obtain ⟨b, o, sp⟩ := ad
      obtain rfl : sp = none := hs
      obtain ⟨hok, hc2⟩ := hq i (by omega)
      have cc : ∀ j v, (dsL (q i))[j]? = some v → W.cell? ⟨b, o + i * 5 + j, none⟩ = some v := fun j v hj => by
        have := hc2 j v hj
        rw [Addr.add_lit] at this
        rw [Nat.add_assoc]
        exact this
      refine ⟨b, o, rfl, lt_cell (cc 0 _ rfl), fun j hj => ?_⟩
      have hj5 : j < (dsL (q i)).length := hj
      have e5 : ((List.range len).map q)[i] = q i := by simp
      rw [e5]
      show W.cell? ⟨b, o + i * 5 + j, none⟩ = (dsL (q i))[j]?
      rw [List.getElem?_eq_getElem hj5]
      exact cc j _ (List.getElem?_eq_getElem hj5)
    · intro y hy
      obtain ⟨i, hi, rfl⟩ := List.mem_map.1 hy
      exact (hq i (by have := List.mem_range.1 hi; omega)).1
end
end Go.Proofs.Ytjfiahendnlcjaa.Da
