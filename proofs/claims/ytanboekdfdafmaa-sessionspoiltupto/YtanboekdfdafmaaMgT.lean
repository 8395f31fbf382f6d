/- SessionSpoilt answers true where what came in is of bulk at most 1048576: one byte of what comes to an end is changed, but of a length: it tells nothing that was not given, each in its place, and less than was given. -/
import Derived.Test.YtanboekdfdafmaaMgS
import Derived.Test.YtanboekdfdafmaaMgQ
import Derived.Test.YtanboekdfdafmaaChecked
import Derived.Test.YtanboekdfdafmaaRows
import Derived.JoinedCond
namespace Go.Proofs.Ytanboekdfdafmaa
open Go.ChangeShapes Go.WideShapes Go.ChangeAt Go.RowKit Go.Joins Go.Deep Go.Proofs.Ytanboekdfdafmaa.Pv
namespace SSpP
set_option linter.unusedVariables false

theorem own : ownKnob Try.prog.godebug = none := by kernel_rfl
theorem laidOut : laidOutB Try.prog = true := by kernel_rfl

set_option maxHeartbeats 800000 in
set_option maxRecDepth 100000 in
theorem lifted (os : Os) (started : os.Started) (H : Type) (enc : TypeId × Value → H) (F : Stop.Interp) :
    ReturnsInHanded {} Try.checked os 5 .any ((Rows.OpenSpec.upto Rows.sessionSpoiltSpec).pre6 enc Try.prog Try.f5 Rows.sessionSpoiltUptoRow.domain false) (((Rows.OpenSpec.upto Rows.sessionSpoiltSpec).at F).post enc Try.prog Try.f5 false true false false) := by
  refine returnsInHanded_of_cond (C := Try.checked) (s := Rows.OpenSpec.upto Rows.sessionSpoiltSpec) (k := Rows.uptoSmall) rfl own started (by kernel_rfl) Try.func5
    (OpenSpec.witness (enc := enc) (C := Try.checked) (s := Rows.OpenSpec.upto Rows.sessionSpoiltSpec) (k := Rows.uptoSmall) rfl false ⟨#[], #[.agg #[.int .i64 0, .int .i64 0], .agg #[.int .i64 0, .int .i64 0], .agg #[.int .i64 0, .int .i64 0], .slice none 0 0, .int .i64 0, .int .i64 0], []⟩ 8 (by kernel_rfl) (by kernel_rfl) (by kernel_rfl)
      (x := ([.agg [.lit (.int .i64 0), .lit (.int .i64 0)], .agg [.lit (.int .i64 0), .lit (.int .i64 0)], .agg [.lit (.int .i64 0), .lit (.int .i64 0)], .nil, .lit (.int .i64 0), .lit (.int .i64 0)], [], [])) (by kernel_rfl) rfl (by kernel_rfl)) ?_
  intro W base args ds gs before hval0 hW _ hk _
  have hval : ∀ (j : Nat) t v, Try.f5.params[j]? = some t → args[j]? = some v → Value.okWide Try.prog W .any base t v := hval0
  have hW' := hW
  obtain ⟨p, q, hA0, hV, rfl, _, _⟩ := hW
  have hA : DataW.TrodAll enc Try.prog W 0 (fun _ => true) true Try.f5.params.toList args.toList ds p := hA0
  rw [Try.params5] at hA hval
  obtain ⟨v0, vs0, d0, ds0, p0, q0, hargs, rfl, rfl, h0, r0⟩ := trodAll_cons hA
  obtain ⟨v1, vs1, d1, ds1, p1, q1, rfl, rfl, rfl, h1, r1⟩ := trodAll_cons r0
  obtain ⟨v2, vs2, d2, ds2, p2, q2, rfl, rfl, rfl, h2, r2⟩ := trodAll_cons r1
  obtain ⟨v3, vs3, d3, ds3, p3, q3, rfl, rfl, rfl, h3, r3⟩ := trodAll_cons r2
  obtain ⟨v4, vs4, d4, ds4, p4, q4, rfl, rfl, rfl, h4, r4⟩ := trodAll_cons r3
  obtain ⟨v5, vs5, d5, ds5, p5, q5, rfl, rfl, rfl, h5, r5⟩ := trodAll_cons r4
  obtain ⟨rfl, rfl, rfl⟩ := trodAll_nil r5
  obtain rfl : args = #[v0, v1, v2, v3, v4, v5] := by cases args; simp_all
  obtain ⟨rfl, rfl⟩ := trodVars_none hV
  obtain ⟨x0, rfl⟩ := ok_two (hval 0 22 v0 rfl rfl)
  obtain ⟨A0, B0, rfl, ha0, hb0⟩ := open_two h0
  obtain ⟨x1, rfl⟩ := ok_two (hval 1 22 v1 rfl rfl)
  obtain ⟨A1, B1, rfl, ha1, hb1⟩ := open_two h1
  obtain ⟨x2, rfl⟩ := ok_two (hval 2 22 v2 rfl rfl)
  obtain ⟨A2, B2, rfl, ha2, hb2⟩ := open_two h2
  obtain ⟨vl, nl, cl, rfl⟩ := okWide_slice Try.underlying39 (hval 3 39 v3 rfl rfl)
  obtain ⟨l, hln, hll, hlm⟩ := open_msgs h3
  obtain ⟨z4, rfl, rfl, rfl, wz4⟩ := open_int Try.underlying3 (hval 4 3 v4 rfl rfl) h4
  have y4 := bounds_i64 wz4
  obtain ⟨z5, rfl, rfl, rfl, wz5⟩ := open_int Try.underlying3 (hval 5 3 v5 rfl rfl) h5
  have y5 := bounds_i64 wz5
  clear hA0 hval0
  simp only [List.append_nil] at hW' hk
  have hlt : ∀ x ∈ p0 ++ (p1 ++ (p2 ++ p3)), x.block < W.heap.size := fun x hx => by simpa using hW'.lt x (by simpa using hx)
  have hsm : Rows.uptoBulk d3 ≤ 1048576 := by
    have h : Rows.uptoBulkAll _ ≤ 1048576 := of_decide_eq_true hk
    simp only [Rows.uptoBulkAll] at h
    omega
  have hnl : nl ≤ 9223372036854775807 := by rw [← hln]; exact hll.small
  refine (Sp.sspoilt_any A0 B0 A1 B1 A2 B2 z4 z5 vl nl cl l W ha0 hb0 ha1 hb1 ha2 hb2 (by omega) (by omega) hln hll (fun q hq => ⟨(hlm q hq).1, by
    obtain ⟨b1, b2, b3, b4, b5⟩ := (hlm q hq).2
    exact ⟨by omega, by omega, by omega, by omega, by omega⟩⟩) hnl).mono fun e W' ⟨he, bel⟩ => ?_
  subst he
  have harg0 := Below.trod laidOut (by kernel_rfl) (of_decide_eq_true (by kernel_rfl)) h0 bel (fun x hx => hlt x (by simp [hx]))
  have harg1 := Below.trod laidOut (by kernel_rfl) (of_decide_eq_true (by kernel_rfl)) h1 bel (fun x hx => hlt x (by simp [hx]))
  have harg2 := Below.trod laidOut (by kernel_rfl) (of_decide_eq_true (by kernel_rfl)) h2 bel (fun x hx => hlt x (by simp [hx]))
  have harg3 := Below.trod laidOut (by kernel_rfl) (of_decide_eq_true (by kernel_rfl)) h3 bel (fun x hx => hlt x (by simp [hx]))
  have harg4 := Below.trod laidOut (by kernel_rfl) (of_decide_eq_true (by kernel_rfl)) h4 bel (fun a ha => by cases ha)
  have harg5 := Below.trod laidOut (by kernel_rfl) (of_decide_eq_true (by kernel_rfl)) h5 bel (fun a ha => by cases ha)
  exact ⟨_, rfl, _, _, _, [], _, [], hW', trodAll_mk1 (shut_bool Try.underlying4 _), trodAll_cons_mk harg0 (trodAll_cons_mk harg1 (trodAll_cons_mk harg2 (trodAll_cons_mk harg3 (trodAll_cons_mk harg4 (trodAll_cons_mk harg5 trodAll_mk0))))), rfl, bel.frame _, fun h => by cases h⟩
end SSpP

theorem sspoilt_holds : Rows.SessionSpoiltUptoSaid :=
  OpenClaim.holds_of_cond 5 Try.f5 rfl rfl rfl rfl rfl rfl rfl ⟨rfl, rfl, rfl, rfl, rfl⟩ rfl rfl rfl rfl rfl (by kernel_rfl) Try.func5 (by kernel_rfl)
    (of_decide_eq_true (by kernel_rfl)) (by unfold Func.isWrapper; first | (rw [if_pos (by decide +kernel)]; kernel_rfl) | (rw [if_neg (by decide +kernel)]; exact ⟨rfl, rfl⟩))
    (fun os started H enc _ F => SSpP.lifted os started H enc F)
#print axioms sspoilt_holds
end Go.Proofs.Ytanboekdfdafmaa
