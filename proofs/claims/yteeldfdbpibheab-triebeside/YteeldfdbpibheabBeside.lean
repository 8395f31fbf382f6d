/- TrieBeside answers true: two tries, each with puts of its own in turns, hold at the end just what their books hold; at every two lists of steps. No conditions. -/
import Derived.Test.YteeldfdbpibheabTrAD
import Derived.Test.YteeldfdbpibheabChecked
import Derived.Lib.SmallJoins
import Derived.Deep.Slices
import Derived.Carry
import Derived.SizedLaws
namespace Go.Proofs.Yteeldfdbpibheab
open Go.ChangeShapes Go.WideShapes Go.ChangeAt Go.RowKit Go.Joins Go.Deep Go.Proofs.Yteeldfdbpibheab.Tri Go.Proofs.Yteeldfdbpibheab.TrM
namespace BesideP
set_option linter.unusedVariables false

theorem own : ownKnob Try.prog.godebug = none := by kernel_rfl
theorem laidOut : laidOutB Try.prog = true := by kernel_rfl
theorem cellsP : Try.prog.cellsOf 33 = 2 := by kernel_rfl
theorem cellsS : Try.prog.cellsOf 35 = 7 := by kernel_rfl
theorem cells32 : Try.prog.cellsOf 31 = 1 := by kernel_rfl
theorem cells64 : Try.prog.cellsOf 3 = 1 := by kernel_rfl
theorem bytesS : Try.prog.bytesOf 35 = 56 := by kernel_rfl

section
variable {H : Type} {enc : TypeId × Value → H}

set_option maxRecDepth 100000 in
theorem open7 {W : World} {a : Option Addr} {len cap : Nat} {d : DataW H} {p : List MemPlace} (h : DataW.Trod enc Try.prog W 0 (fun _ => true) true 22 (.slice a len cap) d p)
    (hsz : ∀ elems spare, d = .slice elems spare → (elems.length + spare.length) * 56 ≤ reachBytes) : ∃ ps : List (Int × Int × Int), len = ps.length ∧ Arr7 W a ps ∧ (ps.length + 2) * 24 ≤ 140737488355328 := by
  obtain ⟨n, h⟩ := h
  rcases open_slice Try.underlying22 h with ⟨hc, -⟩ | ⟨ad, len', cap', m, k, D, Pl, hc, -, hl, hm, hmm, hx, hall⟩
  · simp [Value.cells] at hc
    obtain ⟨rfl, rfl, rfl⟩ := hc
    exact ⟨[], rfl, ⟨by simp, fun i hi => absurd hi (by simp), fun d hd => by cases hd⟩, by simp⟩
  · simp [Value.cells] at hc
    obtain ⟨rfl, rfl, rfl⟩ := hc
    simp only [if_true] at hmm
    subst hmm
    simp only [Prod.mk.injEq] at hx
    have hreach := hsz _ _ hx.1
    simp [reachBytes] at hreach
    rw [cellsS] at hall
    have each : ∀ i, i < m → ∃ q : Int × Int × Int, In32 q.1 ∧ W.cell? (ad.add (i * 7)) ≠ none ∧ W.cell? (ad.add (i * 7 + 2)) = some (.int .u32 q.1) ∧ W.cell? (ad.add (i * 7 + 3)) = some (.int .i64 q.2.1) ∧ W.cell? (ad.add (i * 7 + 4)) = some (.int .i64 q.2.2) := fun i hi => by
      obtain ⟨cs', g, t⟩ := hall i hi
      obtain ⟨xs, n1, -, -, hlen, hxl, hf⟩ := DataW.trod_struct Try.underlying35 t
      rw [cellsS] at hlen
      obtain ⟨-, -, hcell⟩ := World.cells?_some g
      have e0 := hcell 0 (by omega)
      have e2 := hcell 2 (by omega)
      have e3 := hcell 3 (by omega)
      have e4 := hcell 4 (by omega)
      rw [add_add] at e0 e2 e3 e4
      have f2 := hf 2 _ rfl
      have f3 := hf 3 _ rfl
      match cs', hlen, xs, hxl with
      | [c0, c1, c2, c3, c4, c5, c6], _, [x0, x1, x2, x3, x4, x5], _ =>
        simp [cellsP, cells64] at f2 f3
        obtain ⟨z0, z1, n2, -, -, u0, u1⟩ := trod_struct2 Try.underlying33 f2
        simp [cells32, cells64] at u0 u1
        obtain ⟨N0, h0, -, hw⟩ := DataW.trod_int Try.underlying31 u0
        obtain ⟨N1, h1, -, -⟩ := DataW.trod_int Try.underlying3 u1
        obtain ⟨N2, h2, -, -⟩ := DataW.trod_int Try.underlying3 f3
        simp at h0 h1 h2
        subst h0 h1 h2
        have hb := bounds_u32 hw
        exact ⟨(N0, N1, N2), ⟨hb.1, by have := hb.2; show N0 < _; omega⟩, by rw [show i * 7 = i * 7 + 0 from rfl, e0]; simp, by simpa using e2, by simpa using e3, by simpa using e4⟩
    obtain ⟨q, hq⟩ := choose_lt each
    refine ⟨(List.range len).map q, by simp, ⟨?_, ?_, ?_⟩, by simp; omega⟩
    · simp; omega
    · intro i hi
      have hi' : i < len := by simpa using hi
      obtain ⟨-, -, g0, g1, g2⟩ := hq i (by omega)
      have hs : ad.spot = none := by
        obtain ⟨-, h0, -, -, -⟩ := hq 0 (by omega)
        cases hc : W.cell? (ad.add (0 * 7)) with
        | none => exact absurd hc h0
        | some v => simpa [Addr.add] using World.cell?_spot hc
      obtain ⟨b, o, sp⟩ := ad
      obtain rfl : sp = none := hs
      have g0' : W.cell? ⟨b, o + i * 7 + 2, none⟩ = some (.int .u32 (q i).1) := by simpa [Addr.add_lit, Nat.add_assoc] using g0
      have g1' : W.cell? ⟨b, o + i * 7 + 2 + 1, none⟩ = some (.int .i64 (q i).2.1) := by simpa [Addr.add_lit, Nat.add_assoc] using g1
      have g2' : W.cell? ⟨b, o + i * 7 + 4, none⟩ = some (.int .i64 (q i).2.2) := by simpa [Addr.add_lit, Nat.add_assoc] using g2
      refine ⟨b, o, rfl, lt_cell g0', ?_, ?_, ?_⟩
      · rw [g0']; simp
      · rw [g1']; simp
      · rw [g2']; simp
    · intro d hd
      obtain ⟨i, hi, rfl⟩ := List.mem_map.1 hd
      exact (hq i (by have := List.mem_range.1 hi; omega)).1
end

set_option maxHeartbeats 800000 in
set_option maxRecDepth 100000 in
theorem lifted (os : Os) (started : os.Started) (H : Type) (enc : TypeId × Value → H) :
    ReturnsInHanded {} Try.checked os 4 .any (Rows.trieBesideSpec.pre6 enc Try.prog Try.f4 Rows.trieBesideRow.domain false) (Rows.trieBesideSpec.post enc Try.prog Try.f4 false true false false) := by
  refine returnsInHanded_of_change_sized (C := Try.checked) own started (by kernel_rfl) Try.func4
    (ChangeSpec.witness6 (enc := enc) (C := Try.checked) false ⟨#[], #[.slice none 0 0, .slice none 0 0], []⟩ 8 (by kernel_rfl) (by kernel_rfl) (by kernel_rfl) (by kernel_rfl)) ?_
  intro W base args ds gs before hval0 hW _ hsz0 _
  have hval : ∀ (j : Nat) t v, Try.f4.params[j]? = some t → args[j]? = some v → Value.okWide Try.prog W .any base t v := hval0
  have hsz : (DataW.weightsEach Try.prog (Try.f4.params.toList ++ Rows.trieBesideSpec.plain.varTypes Try.prog) (ds ++ gs)).all (· ≤ reachBytes) = true := hsz0
  have hW' := hW
  obtain ⟨p, q, hA0, hV, rfl, _, _⟩ := hW
  have hA : DataW.TrodAll enc Try.prog W 0 (fun _ => true) true Try.f4.params.toList args.toList ds p := hA0
  rw [Try.params4] at hA hval hsz
  obtain ⟨v0, v1, d0, d1, p0, p1, rfl, rfl, rfl, h0, h1⟩ := trodAll_two hA
  obtain ⟨rfl, rfl⟩ := trodVars_none hV
  obtain ⟨a0, len0, cap0, rfl⟩ := okWide_slice Try.underlying22 (hval 0 22 v0 rfl rfl)
  obtain ⟨a1, len1, cap1, rfl⟩ := okWide_slice Try.underlying22 (hval 1 22 v1 rfl rfl)
  clear hA0 hval0 hsz0
  simp only [List.append_nil] at hW'
  have hlt : ∀ x ∈ p0 ++ p1, x.block < W.heap.size := fun x hx => by simpa using hW'.lt x hx
  have hz0 : ∀ elems spare, d0 = .slice elems spare → (elems.length + spare.length) * 56 ≤ reachBytes := fun elems spare e => by
    subst e
    have := sized_slice hsz (j := 0) (t := 22) (e := 35) rfl rfl Try.underlying22
    rwa [bytesS] at this
  have hz1 : ∀ elems spare, d1 = .slice elems spare → (elems.length + spare.length) * 56 ≤ reachBytes := fun elems spare e => by
    subst e
    have := sized_slice hsz (j := 1) (t := 22) (e := 35) rfl rfl Try.underlying22
    rwa [bytesS] at this
  obtain ⟨sa, rfl, ha7, hba⟩ := open7 h0 hz0
  obtain ⟨sb, rfl, hb7, hbb⟩ := open7 h1 hz1
  refine (beside_any a0 a1 cap0 cap1 sa sb W ha7 hb7 hba hbb).mono fun e W' ⟨he, bel⟩ => ?_
  subst he
  have harg0 := Below.trod laidOut (by kernel_rfl) (of_decide_eq_true (by kernel_rfl)) h0 bel (fun x hx => hlt x (List.mem_append.2 (.inl hx)))
  have harg1 := Below.trod laidOut (by kernel_rfl) (of_decide_eq_true (by kernel_rfl)) h1 bel (fun x hx => hlt x (List.mem_append.2 (.inr hx)))
  exact ⟨_, rfl, _, _, _, [], _, [], hW', trodAll_mk1 (shut_bool Try.underlying4 _), trodAll_mk2 harg0 harg1, rfl, bel.frame _, fun h => by cases h⟩
end BesideP

theorem beside_holds : Rows.TrieBesideSaid :=
  OpenClaim.holds_of_wide 4 Try.f4 rfl rfl rfl rfl rfl rfl rfl ⟨rfl, rfl, rfl, rfl, rfl⟩ rfl rfl rfl rfl rfl (by kernel_rfl) Try.func4 (by kernel_rfl)
    (of_decide_eq_true (by kernel_rfl)) (by unfold Func.isWrapper; first | (rw [if_pos (by decide +kernel)]; kernel_rfl) | (rw [if_neg (by decide +kernel)]; exact ⟨rfl, rfl⟩))
    (fun os started H enc _ => BesideP.lifted os started H enc)
#print axioms beside_holds
end Go.Proofs.Yteeldfdbpibheab
