/- SessionLives answers true at whatever configs and waits: as long as both ends are ticked often enough, and all comes, they stay up; when nothing comes any more, both are idle when what they wait has gone by. No conditions. -/
import Derived.Test.YtanboekdfdafmaaMgQ
import Derived.Test.YtanboekdfdafmaaMgR
import Derived.Test.YtanboekdfdafmaaChecked
import Derived.Test.YtanboekdfdafmaaRows
namespace Go.Proofs.Ytanboekdfdafmaa
open Go.ChangeShapes Go.WideShapes Go.ChangeAt Go.RowKit Go.Joins Go.Deep Go.Proofs.Ytanboekdfdafmaa.Pv
namespace SLiP
set_option linter.unusedVariables false

theorem own : ownKnob Try.prog.godebug = none := by kernel_rfl
theorem laidOut : laidOutB Try.prog = true := by kernel_rfl

set_option maxRecDepth 100000 in
set_option maxHeartbeats 800000 in
theorem lifted (os : Os) (started : os.Started) (H : Type) (enc : TypeId × Value → H) :
    ReturnsInHanded {} Try.checked os 4 .any (Rows.sessionLivesSpec.pre6 enc Try.prog Try.f4 Rows.sessionLivesRow.domain false) (Rows.sessionLivesSpec.post enc Try.prog Try.f4 false true false false) := by
  refine returnsInHanded_of_change (C := Try.checked) own started (by kernel_rfl) Try.func4
    (ChangeSpec.witness6 (enc := enc) (C := Try.checked) false ⟨#[], #[.agg #[.int .i64 0, .int .i64 0], .agg #[.int .i64 0, .int .i64 0], .agg #[.int .i64 0, .int .i64 0], .slice none 0 0], []⟩ 8 (by kernel_rfl) (by kernel_rfl) (by kernel_rfl) (by kernel_rfl)) ?_
  intro W base args ds gs before hval0 hW hcnd _
  have hval : ∀ (j : Nat) t v, Try.f4.params[j]? = some t → args[j]? = some v → Value.okWide Try.prog W .any base t v := hval0
  have hW' := hW
  obtain ⟨p, q, hA0, hV, rfl, hfz, hnd⟩ := hW
  have hA : DataW.TrodAll enc Try.prog W 0 (fun _ => true) true Try.f4.params.toList args.toList ds p := hA0
  rw [Try.params4] at hA hval
  obtain ⟨v0, vs0, d0, ds0, p0, q0, hargs, rfl, rfl, h0, r0⟩ := trodAll_cons hA
  obtain ⟨v1, vs1, d1, ds1, p1, q1, rfl, rfl, rfl, h1, r1⟩ := trodAll_cons r0
  obtain ⟨v2, vs2, d2, ds2, p2, q2, rfl, rfl, rfl, h2, r2⟩ := trodAll_cons r1
  obtain ⟨v3, vs3, d3, ds3, p3, q3, rfl, rfl, rfl, h3, r3⟩ := trodAll_cons r2
  obtain ⟨rfl, rfl, rfl⟩ := trodAll_nil r3
  obtain rfl : args = #[v0, v1, v2, v3] := by cases args; simp_all
  obtain ⟨rfl, rfl⟩ := trodVars_none hV
  obtain ⟨x0, rfl⟩ := ok_two (hval 0 22 v0 rfl rfl)
  obtain ⟨x1, rfl⟩ := ok_two (hval 1 22 v1 rfl rfl)
  obtain ⟨x2, rfl⟩ := ok_two (hval 2 22 v2 rfl rfl)
  obtain ⟨vc, nc, cc, rfl⟩ := okWide_slice Try.underlying50 (hval 3 50 v3 rfl rfl)
  obtain ⟨D0, D1, rfl, hd0, hd1⟩ := open_two h0
  obtain ⟨I0, I1, rfl, hi0, hi1⟩ := open_two h1
  obtain ⟨H0, H1, rfl, hh0, hh1⟩ := open_two h2
  obtain ⟨cs, hcn, hcl, hcr⟩ := open_cuts h3
  clear hA0 hval0
  simp only [List.append_nil] at hW'
  have hlt : ∀ a ∈ p0 ++ (p1 ++ (p2 ++ p3)), a.block < W.heap.size := fun a ha => by simpa using hW'.lt a (by simpa using ha)
  have hnc : nc ≤ 9223372036854775807 := by rw [← hcn]; exact hcl.small
  refine (slives_any D0 D1 I0 I1 H0 H1 vc nc cc cs W hd0 hd1 hi0 hi1 hh0 hh1 hcn hcl hcr hnc).mono fun e W' ⟨he, bel⟩ => ?_
  subst he
  have harg0 := Below.trod laidOut (by kernel_rfl) (of_decide_eq_true (by kernel_rfl)) h0 bel (fun a ha => hlt a (by simp [ha]))
  have harg1 := Below.trod laidOut (by kernel_rfl) (of_decide_eq_true (by kernel_rfl)) h1 bel (fun a ha => hlt a (by simp [ha]))
  have harg2 := Below.trod laidOut (by kernel_rfl) (of_decide_eq_true (by kernel_rfl)) h2 bel (fun a ha => hlt a (by simp [ha]))
  have harg3 := Below.trod laidOut (by kernel_rfl) (of_decide_eq_true (by kernel_rfl)) h3 bel (fun a ha => hlt a (by simp [ha]))
  exact ⟨_, rfl, _, _, _, [], _, [], hW', trodAll_mk1 (shut_bool Try.underlying4 _), trodAll_cons_mk harg0 (trodAll_cons_mk harg1 (trodAll_cons_mk harg2 (trodAll_cons_mk harg3 trodAll_mk0))), rfl, bel.frame _, fun h => by cases h⟩
end SLiP

theorem slives_holds : Rows.SessionLivesSaid :=
  OpenClaim.holds_of_wide 4 Try.f4 rfl rfl rfl rfl rfl rfl rfl ⟨rfl, rfl, rfl, rfl, rfl⟩ rfl rfl rfl rfl rfl (by kernel_rfl) Try.func4 (by kernel_rfl)
    (of_decide_eq_true (by kernel_rfl)) (by unfold Func.isWrapper; first | (rw [if_pos (by decide +kernel)]; kernel_rfl) | (rw [if_neg (by decide +kernel)]; exact ⟨rfl, rfl⟩))
    (fun os started H enc _ => SLiP.lifted os started H enc)
#print axioms slives_holds
end Go.Proofs.Ytanboekdfdafmaa
