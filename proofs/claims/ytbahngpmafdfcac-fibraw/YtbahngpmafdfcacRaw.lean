/- FibRaw answers true: at every memory and every address Find and Touched return, leave the memory as it was, and a new table in which 0.0.0.0/0 is set to 1 leads every address to 1. No conditions. -/
import Derived.Test.YtbahngpmafdfcacFbR
import Derived.Test.YtbahngpmafdfcacChecked
import Derived.Lib.SmallJoins
import Derived.Deep.Slices
import Derived.Carry
import Derived.SizedLaws
namespace Go.Proofs.Ytbahngpmafdfcac
open Go.ChangeShapes Go.WideShapes Go.ChangeAt Go.RowKit Go.Joins Go.Deep Go.Proofs.Ytbahngpmafdfcac.Fb
namespace RawP
set_option linter.unusedVariables false

theorem own : ownKnob Try.prog.godebug = none := by kernel_rfl
theorem laidOut : laidOutB Try.prog = true := by kernel_rfl
theorem cells32 : Try.prog.cellsOf 30 = 1 := by kernel_rfl
theorem bytes32 : Try.prog.bytesOf 30 = 4 := by kernel_rfl

section
variable {H : Type} {enc : TypeId × Value → H}
theorem lt_of {W : World} {b o : Nat} {v : Value} (h : W.cell? ⟨b, o, none⟩ = some v) : b < W.heap.size := World.block_lt_of_cell? W _ h

set_option maxRecDepth 100000 in
theorem openU {W : World} {a : Option Addr} {len cap : Nat} {d : DataW H} {p : List MemPlace} (h : DataW.Trod enc Try.prog W 0 (fun _ => true) true 23 (.slice a len cap) d p)
    (hsz : ∀ elems spare, d = .slice elems spare → (elems.length + spare.length) * 4 ≤ reachBytes) : ∃ ms : List Int, len = ms.length ∧ Wds W a ms ∧ (ms.length + 3) * 4 ≤ 140737488355328 ∧ (a = none → len = 0 ∧ cap = 0) := by
  obtain ⟨n, h⟩ := h
  rcases open_slice Try.underlying23 h with ⟨hc, -⟩ | ⟨ad, len', cap', m, k, D, Pl, hc, -, hl, hm, hmm, hx, hall⟩
  · simp [Value.cells] at hc
    obtain ⟨rfl, rfl, rfl⟩ := hc
    exact ⟨[], rfl, ⟨by simp, fun i hi => absurd hi (by simp), fun d hd => by cases hd⟩, by simp, fun _ => ⟨rfl, rfl⟩⟩
  · simp [Value.cells] at hc
    obtain ⟨rfl, rfl, rfl⟩ := hc
    simp only [if_true] at hmm
    subst hmm
    simp only [Prod.mk.injEq] at hx
    have hreach := hsz _ _ hx.1
    simp [reachBytes] at hreach
    rw [cells32] at hall
    have each : ∀ i, i < m → ∃ q : Int, In32 q ∧ W.cell? (ad.add i) = some (.int .u32 q) := fun i hi => by
      obtain ⟨cs', g, t⟩ := hall i hi
      obtain ⟨N0, h0, -, hw⟩ := DataW.trod_int Try.underlying30 t
      obtain ⟨-, -, hcell⟩ := World.cells?_some g
      subst h0
      have e0 := hcell 0 (by simp)
      rw [add_add] at e0
      have hb := bounds_u32 hw
      exact ⟨N0, ⟨hb.1, by have := hb.2; show N0 < _; omega⟩, by simpa using e0⟩
    obtain ⟨q, hq⟩ := choose_lt each
    refine ⟨(List.range len).map q, by simp, ⟨?_, ?_, ?_⟩, by simp; omega, fun e => by cases e⟩
    · simp; omega
    · intro i hi
      have hi' : i < len := by simpa using hi
      obtain ⟨-, g0⟩ := hq i (by omega)
      have hs : ad.spot = none := by simpa [Addr.add] using World.cell?_spot (hq 0 (by omega)).2
      obtain ⟨b, o, sp⟩ := ad
      obtain rfl : sp = none := hs
      have g0' : W.cell? ⟨b, o + i, none⟩ = some (.int .u32 (q i)) := by simpa [Addr.add_lit] using g0
      exact ⟨b, o, rfl, lt_of g0', by rw [g0']; simp⟩
    · intro d hd
      obtain ⟨i, hi, rfl⟩ := List.mem_map.1 hd
      exact (hq i (by have := List.mem_range.1 hi; omega)).1
end

set_option maxHeartbeats 800000 in
set_option maxRecDepth 100000 in
theorem lifted (os : Os) (started : os.Started) (H : Type) (enc : TypeId × Value → H) :
    ReturnsInHanded {} Try.checked os 5 .any (Rows.fibRawSpec.pre6 enc Try.prog Try.f5 Rows.fibRawRow.domain false) (Rows.fibRawSpec.post enc Try.prog Try.f5 false true false false) := by
  refine returnsInHanded_of_change_sized (C := Try.checked) own started (by kernel_rfl) Try.func5
    (ChangeSpec.witness6 (enc := enc) (C := Try.checked) false ⟨#[], #[.slice none 0 0, .int .u32 0], []⟩ 8 (by kernel_rfl) (by kernel_rfl) (by kernel_rfl) (by kernel_rfl)) ?_
  intro W base args ds gs before hval0 hW _ hsz0 _
  have hval : ∀ (j : Nat) t v, Try.f5.params[j]? = some t → args[j]? = some v → Value.okWide Try.prog W .any base t v := hval0
  have hsz : (DataW.weightsEach Try.prog (Try.f5.params.toList ++ Rows.fibRawSpec.plain.varTypes Try.prog) (ds ++ gs)).all (· ≤ reachBytes) = true := hsz0
  have hW' := hW
  obtain ⟨p, q, hA0, hV, rfl, _, _⟩ := hW
  have hA : DataW.TrodAll enc Try.prog W 0 (fun _ => true) true Try.f5.params.toList args.toList ds p := hA0
  rw [Try.params5] at hA hval hsz
  obtain ⟨v0, v1, d0, d1, p0, p1, rfl, rfl, rfl, h0, h1⟩ := trodAll_two hA
  obtain ⟨rfl, rfl⟩ := trodVars_none hV
  obtain ⟨a0, len0, cap0, rfl⟩ := okWide_slice Try.underlying23 (hval 0 23 v0 rfl rfl)
  have hz0 : ∀ elems spare, d0 = .slice elems spare → (elems.length + spare.length) * 4 ≤ reachBytes := fun elems spare e => by
    subst e
    have := sized_slice hsz (j := 0) (t := 23) (e := 30) rfl rfl Try.underlying23
    rwa [bytes32] at this
  obtain ⟨x0, rfl, rfl, rfl, wx⟩ := open_int Try.underlying30 (hval 1 30 v1 rfl rfl) h1
  clear hA0 hval0 hsz0
  have bx := bounds_u32 wx
  simp only [List.append_nil] at hW'
  have hlt : ∀ x ∈ p0, x.block < W.heap.size := fun x hx => by simpa using hW'.lt x (by simpa using hx)
  obtain ⟨ms, rfl, hwd, hb, hnil⟩ := openU h0 hz0
  refine (raw_any a0 cap0 ms ms.length rfl hb x0 bx.1 (by have := bx.2; omega) W hwd hnil).mono fun e W' ⟨he, bel⟩ => ?_
  subst he
  have harg0 := Below.trod laidOut (by kernel_rfl) (of_decide_eq_true (by kernel_rfl)) h0 bel hlt
  exact ⟨_, rfl, _, _, _, [], _, [], hW', trodAll_mk1 (shut_bool Try.underlying4 _), trodAll_cons_mk harg0 (trodAll_cons_mk (shut_int Try.underlying30 wx) trodAll_mk0), rfl, bel.frame _, fun h => by cases h⟩
end RawP

theorem raw_holds : Rows.FibRawSaid :=
  OpenClaim.holds_of_wide 5 Try.f5 rfl rfl rfl rfl rfl rfl rfl ⟨rfl, rfl, rfl, rfl, rfl⟩ rfl rfl rfl rfl rfl (by kernel_rfl) Try.func5 (by kernel_rfl)
    (of_decide_eq_true (by kernel_rfl)) (by unfold Func.isWrapper; first | (rw [if_pos (by decide +kernel)]; kernel_rfl) | (rw [if_neg (by decide +kernel)]; exact ⟨rfl, rfl⟩))
    (fun os started H enc _ => RawP.lifted os started H enc)
#print axioms raw_holds
end Go.Proofs.Ytbahngpmafdfcac
