/- TrieLongest answers true: what Match answers holds the address, was put last with that value, and no longer one that was put and not dropped holds it; at every list of puts, every list of drops and every address. No conditions. -/
import Derived.Test.YteeldfdbpibheabTrU
import Derived.Test.YteeldfdbpibheabChecked
import Derived.Lib.SmallJoins
import Derived.Deep.Slices
import Derived.Deep.SlicePairs
import Derived.Carry
namespace Go.Proofs.Yteeldfdbpibheab
open Go.ChangeShapes Go.WideShapes Go.ChangeAt Go.RowKit Go.Joins Go.Deep Go.Proofs.Yteeldfdbpibheab.Tri Go.Proofs.Yteeldfdbpibheab.TrM
namespace LongestP
set_option linter.unusedVariables false

theorem own : ownKnob Try.prog.godebug = none := by kernel_rfl
theorem laidOut : laidOutB Try.prog = true := by kernel_rfl
theorem cellsP : Try.prog.cellsOf 33 = 2 := by kernel_rfl
theorem cellsI : Try.prog.cellsOf 43 = 3 := by kernel_rfl
theorem cells32 : Try.prog.cellsOf 31 = 1 := by kernel_rfl
theorem cells64 : Try.prog.cellsOf 3 = 1 := by kernel_rfl

def iv : Value → Int
  | .int _ z => z
  | _ => 0

theorem lt_of {w : World} {a : Addr} {v : Value} (h : w.cell? a = some v) : a.block < w.heap.size := by
  obtain ⟨o, ho, -⟩ := cells_of_cell h; exact (Array.getElem?_eq_some_iff.1 ho).1

section
variable {H : Type} {enc : TypeId × Value → H}

theorem open2 {W : World} {a : Option Addr} {len cap : Nat} {d : DataW H} {p : List MemPlace} (h : DataW.Trod enc Try.prog W 0 (fun _ => true) true 41 (.slice a len cap) d p) : ∃ ds : List (Int × Int), len = ds.length ∧ Arr2 W a ds := by
  obtain ⟨n, h⟩ := h
  rcases open_slice_pairs Try.underlying41 Try.underlying33 cellsP rfl rfl cells32 cells64 h with ⟨hc, -⟩ | ⟨ad, len', cap', m, k, V0, V1, D0, D1, P0, P1, hc, -, hl, hm, hmm, -, hall⟩
  · simp [Value.cells] at hc
    obtain ⟨rfl, rfl, rfl⟩ := hc
    exact ⟨[], rfl, by simp, fun i hi => absurd hi (by simp), fun d hd => by cases hd⟩
  · simp [Value.cells] at hc
    obtain ⟨rfl, rfl, rfl⟩ := hc
    simp only [if_true] at hmm
    subst hmm
    have hint : ∀ i, i < m → V0 i = .int .u32 (iv (V0 i)) ∧ V1 i = .int .i64 (iv (V1 i)) ∧ In32 (iv (V0 i)) := fun i hi => by
      obtain ⟨N0, h1, -, hw⟩ := DataW.trod_int Try.underlying31 (hall i hi).2.2.1
      obtain ⟨N1, h2, -, -⟩ := DataW.trod_int Try.underlying3 (hall i hi).2.2.2
      simp at h1 h2
      have := bounds_u32 hw
      rw [h1, h2]
      exact ⟨rfl, rfl, this.1, by have := this.2; show N0 < _; omega⟩
    refine ⟨(List.range len).map fun i => (iv (V0 i), iv (V1 i)), by simp, ?_, ?_, ?_⟩
    · simp; unfold maxLen at hm; omega
    · intro i hi
      have hi' : i < len := by simpa using hi
      obtain ⟨g0, g1, -, -⟩ := hall i (by omega)
      have hs : ad.spot = none := by simpa [Addr.add] using World.cell?_spot (hall 0 (by omega)).1
      obtain ⟨b, o, sp⟩ := ad
      obtain rfl : sp = none := hs
      have g0' : W.cell? ⟨b, o + i * 2, none⟩ = some (V0 i) := by simpa [Addr.add_lit] using g0
      have g1' : W.cell? ⟨b, o + i * 2 + 1, none⟩ = some (V1 i) := by simpa [Addr.add_lit, Nat.add_assoc] using g1
      refine ⟨b, o, rfl, lt_of g0', ?_, ?_⟩
      · rw [g0', (hint i (by omega)).1]; simp [iv]
      · rw [g1', (hint i (by omega)).2.1]; simp [iv]
    · intro d hd
      obtain ⟨i, hi, rfl⟩ := List.mem_map.1 hd
      exact (hint i (by have := List.mem_range.1 hi; omega)).2.2

set_option maxRecDepth 100000 in
theorem open3 {W : World} {a : Option Addr} {len cap : Nat} {d : DataW H} {p : List MemPlace} (h : DataW.Trod enc Try.prog W 0 (fun _ => true) true 38 (.slice a len cap) d p) : ∃ ps : List (Int × Int × Int), len = ps.length ∧ Arr3 W a ps := by
  obtain ⟨n, h⟩ := h
  rcases open_slice Try.underlying38 h with ⟨hc, -⟩ | ⟨ad, len', cap', m, k, D, Pl, hc, -, hl, hm, hmm, -, hall⟩
  · simp [Value.cells] at hc
    obtain ⟨rfl, rfl, rfl⟩ := hc
    exact ⟨[], rfl, by simp, fun i hi => absurd hi (by simp), fun d hd => by cases hd⟩
  · simp [Value.cells] at hc
    obtain ⟨rfl, rfl, rfl⟩ := hc
    simp only [if_true] at hmm
    subst hmm
    rw [cellsI] at hall
    have each : ∀ i, i < m → ∃ q : Int × Int × Int, In32 q.1 ∧ W.cell? (ad.add (i * 3)) = some (.int .u32 q.1) ∧ W.cell? (ad.add (i * 3 + 1)) = some (.int .i64 q.2.1) ∧ W.cell? (ad.add (i * 3 + 2)) = some (.int .i64 q.2.2) := fun i hi => by
      obtain ⟨cs', g, t⟩ := hall i hi
      obtain ⟨y0, y1, n1, -, hlen, t0, t1⟩ := trod_struct2 Try.underlying43 t
      rw [cellsI] at hlen
      obtain ⟨-, -, hcell⟩ := World.cells?_some g
      have e0 := hcell 0 (by omega)
      have e1 := hcell 1 (by omega)
      have e2 := hcell 2 (by omega)
      rw [add_add] at e0 e1 e2
      match cs', hlen with
      | [c0, c1, c2], _ =>
        obtain ⟨z0, z1, n2, -, -, u0, u1⟩ := trod_struct2 Try.underlying33 t0
        simp [cellsP, cells32, cells64] at u0 u1 t1
        obtain ⟨N0, h0, -, hw⟩ := DataW.trod_int Try.underlying31 u0
        obtain ⟨N1, h1, -, -⟩ := DataW.trod_int Try.underlying3 u1
        obtain ⟨N2, h2, -, -⟩ := DataW.trod_int Try.underlying3 t1
        simp at h0 h1 h2
        subst h0 h1 h2
        have hb := bounds_u32 hw
        exact ⟨(N0, N1, N2), ⟨hb.1, by have := hb.2; show N0 < _; omega⟩, by simpa using e0, by simpa using e1, by simpa using e2⟩
    obtain ⟨q, hq⟩ := choose_lt each
    refine ⟨(List.range len).map q, by simp, ?_, ?_, ?_⟩
    · simp; unfold maxLen at hm; omega
    · intro i hi
      have hi' : i < len := by simpa using hi
      obtain ⟨-, g0, g1, g2⟩ := hq i (by omega)
      have hs : ad.spot = none := by simpa [Addr.add] using World.cell?_spot (hq 0 (by omega)).2.1
      obtain ⟨b, o, sp⟩ := ad
      obtain rfl : sp = none := hs
      have g0' : W.cell? ⟨b, o + i * 3, none⟩ = some (.int .u32 (q i).1) := by simpa [Addr.add_lit] using g0
      have g1' : W.cell? ⟨b, o + i * 3 + 1, none⟩ = some (.int .i64 (q i).2.1) := by simpa [Addr.add_lit, Nat.add_assoc] using g1
      have g2' : W.cell? ⟨b, o + i * 3 + 2, none⟩ = some (.int .i64 (q i).2.2) := by simpa [Addr.add_lit, Nat.add_assoc] using g2
      refine ⟨b, o, rfl, lt_of g0', ?_, ?_, ?_⟩
      · rw [g0']; simp
      · rw [g1']; simp
      · rw [g2']; simp
    · intro d hd
      obtain ⟨i, hi, rfl⟩ := List.mem_map.1 hd
      exact (hq i (by have := List.mem_range.1 hi; omega)).1
end

set_option maxHeartbeats 800000 in
set_option maxRecDepth 100000 in
theorem lifted (os : Os) (started : os.Started) (H : Type) (enc : TypeId × Value → H) :
    ReturnsInHanded {} Try.checked os 5 .any (Rows.trieLongestSpec.pre6 enc Try.prog Try.f5 Rows.trieLongestRow.domain false) (Rows.trieLongestSpec.post enc Try.prog Try.f5 false true false false) := by
  refine returnsInHanded_of_change (C := Try.checked) own started (by kernel_rfl) Try.func5
    (ChangeSpec.witness6 (enc := enc) (C := Try.checked) false ⟨#[], #[.slice none 0 0, .slice none 0 0, .int .u32 0], []⟩ 8 (by kernel_rfl) (by kernel_rfl) (by kernel_rfl) (by kernel_rfl)) ?_
  intro W base args ds gs before hval0 hW _ _
  have hval : ∀ (j : Nat) t v, Try.f5.params[j]? = some t → args[j]? = some v → Value.okWide Try.prog W .any base t v := hval0
  have hW' := hW
  obtain ⟨p, q, hA0, hV, rfl, _, _⟩ := hW
  have hA : DataW.TrodAll enc Try.prog W 0 (fun _ => true) true Try.f5.params.toList args.toList ds p := hA0
  rw [Try.params5] at hA hval
  obtain ⟨v0, vs0, d0, ds0, p0, q0, hargs, rfl, rfl, h0, r0⟩ := trodAll_cons hA
  obtain ⟨v1, vs1, d1, ds1, p1, q1, rfl, rfl, rfl, h1, r1⟩ := trodAll_cons r0
  obtain ⟨v2, vs2, d2, ds2, p2, q2, rfl, rfl, rfl, h2, r2⟩ := trodAll_cons r1
  obtain ⟨rfl, rfl, rfl⟩ := trodAll_nil r2
  obtain rfl : args = #[v0, v1, v2] := by cases args; simp_all
  obtain ⟨rfl, rfl⟩ := trodVars_none hV
  obtain ⟨a0, len0, cap0, rfl⟩ := okWide_slice Try.underlying38 (hval 0 38 v0 rfl rfl)
  obtain ⟨a1, len1, cap1, rfl⟩ := okWide_slice Try.underlying41 (hval 1 41 v1 rfl rfl)
  obtain ⟨x0, rfl, rfl, rfl, wx⟩ := open_int Try.underlying31 (hval 2 31 v2 rfl rfl) h2
  clear hA0 hval0
  have bx := bounds_u32 wx
  simp only [List.append_nil] at hW'
  have hlt : ∀ x ∈ p0 ++ p1, x.block < W.heap.size := fun x hx => by simpa using hW'.lt x (by simpa using hx)
  obtain ⟨ps, rfl, hp3⟩ := open3 h0
  obtain ⟨dl, rfl, hp2⟩ := open2 h1
  refine (longest_any a0 a1 cap0 cap1 ps dl x0 bx.1 (by omega) W hp3 hp2).mono fun e W' ⟨he, bel⟩ => ?_
  subst he
  have harg0 := Below.trod laidOut (by kernel_rfl) (of_decide_eq_true (by kernel_rfl)) h0 bel (fun x hx => hlt x (List.mem_append.2 (.inl hx)))
  have harg1 := Below.trod laidOut (by kernel_rfl) (of_decide_eq_true (by kernel_rfl)) h1 bel (fun x hx => hlt x (List.mem_append.2 (.inr hx)))
  exact ⟨_, rfl, _, _, _, [], _, [], hW', trodAll_mk1 (shut_bool Try.underlying4 _), trodAll_cons_mk harg0 (trodAll_cons_mk harg1 (trodAll_cons_mk (shut_int Try.underlying31 wx) trodAll_mk0)), rfl, bel.frame _, fun h => by cases h⟩
end LongestP

theorem longest_holds : Rows.TrieLongestSaid :=
  OpenClaim.holds_of_wide 5 Try.f5 rfl rfl rfl rfl rfl rfl rfl ⟨rfl, rfl, rfl, rfl, rfl⟩ rfl rfl rfl rfl rfl (by kernel_rfl) Try.func5 (by kernel_rfl)
    (of_decide_eq_true (by kernel_rfl)) (by unfold Func.isWrapper; first | (rw [if_pos (by decide +kernel)]; kernel_rfl) | (rw [if_neg (by decide +kernel)]; exact ⟨rfl, rfl⟩))
    (fun os started H enc _ => LongestP.lifted os started H enc)
#print axioms longest_holds
end Go.Proofs.Yteeldfdbpibheab
