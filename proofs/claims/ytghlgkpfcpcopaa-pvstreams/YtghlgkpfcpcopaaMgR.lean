/- PvStreams answers true on all bytes and cuts: in whatever pieces bytes come, Take answers what the document's reading of all of them does, waits for what it says, and what came out is the caller's own. No conditions. -/
import Derived.Test.YtghlgkpfcpcopaaMgP
import Derived.Test.YtghlgkpfcpcopaaMgQ
import Derived.Test.YtghlgkpfcpcopaaChecked
import Derived.Test.YtghlgkpfcpcopaaRows
namespace Go.Proofs.Ytghlgkpfcpcopaa
open Go.ChangeShapes Go.WideShapes Go.ChangeAt Go.RowKit Go.Joins Go.Deep Go.Proofs.Ytghlgkpfcpcopaa.Pv
namespace PStP
set_option linter.unusedVariables false

theorem own : ownKnob Try.prog.godebug = none := by kernel_rfl
theorem laidOut : laidOutB Try.prog = true := by kernel_rfl

set_option maxRecDepth 100000 in
set_option maxHeartbeats 800000 in
theorem lifted (os : Os) (started : os.Started) (H : Type) (enc : TypeId × Value → H) :
    ReturnsInHanded {} Try.checked os 5 .any (Rows.pvStreamsSpec.pre6 enc Try.prog Try.f5 Rows.pvStreamsRow.domain false) (Rows.pvStreamsSpec.post enc Try.prog Try.f5 false true false false) := by
  refine returnsInHanded_of_change (C := Try.checked) own started (by kernel_rfl) Try.func5
    (ChangeSpec.witness6 (enc := enc) (C := Try.checked) false ⟨#[], #[.slice none 0 0, .slice none 0 0], []⟩ 8 (by kernel_rfl) (by kernel_rfl) (by kernel_rfl) (by kernel_rfl)) ?_
  intro W base args ds gs before hval0 hW hcnd _
  have hval : ∀ (j : Nat) t v, Try.f5.params[j]? = some t → args[j]? = some v → Value.okWide Try.prog W .any base t v := hval0
  have hW' := hW
  obtain ⟨p, q, hA0, hV, rfl, hfz, hnd⟩ := hW
  have hA : DataW.TrodAll enc Try.prog W 0 (fun _ => true) true Try.f5.params.toList args.toList ds p := hA0
  rw [Try.params5] at hA hval
  obtain ⟨v0, vs0, d0, ds0, p0, q0, hargs, rfl, rfl, h0, r0⟩ := trodAll_cons hA
  obtain ⟨v1, vs1, d1, ds1, p1, q1, rfl, rfl, rfl, h1, r1⟩ := trodAll_cons r0
  obtain ⟨rfl, rfl, rfl⟩ := trodAll_nil r1
  obtain rfl : args = #[v0, v1] := by cases args; simp_all
  obtain ⟨rfl, rfl⟩ := trodVars_none hV
  obtain ⟨vb, lb, cb, rfl⟩ := okWide_slice Try.underlying22 (hval 0 22 v0 rfl rfl)
  obtain ⟨vc, nc, cc, rfl⟩ := okWide_slice Try.underlying27 (hval 1 27 v1 rfl rfl)
  obtain ⟨bs, hbl, hbc, hby, hbu, hbn⟩ := open_by h0
  obtain ⟨cs, hcn, hcl, hcr⟩ := open_cuts h1
  clear hA0 hval0
  simp only [List.append_nil] at hW'
  have hlt : ∀ a ∈ p0 ++ p1, a.block < W.heap.size := fun a ha => by simpa using hW'.lt a (by simpa using ha)
  have hnc : nc ≤ 9223372036854775807 := by rw [← hcn]; exact hcl.small
  refine (streams_any vb lb cb bs hbl hbc W hby hbu vc nc cc cs hcn hcl hcr hnc hbn).mono fun e W' ⟨he, bel⟩ => ?_
  subst he
  have harg0 := Below.trod laidOut (by kernel_rfl) (of_decide_eq_true (by kernel_rfl)) h0 bel (fun a ha => hlt a (by simp [ha]))
  have harg1 := Below.trod laidOut (by kernel_rfl) (of_decide_eq_true (by kernel_rfl)) h1 bel (fun a ha => hlt a (by simp [ha]))
  exact ⟨_, rfl, _, _, _, [], _, [], hW', trodAll_mk1 (shut_bool Try.underlying4 _), trodAll_cons_mk harg0 (trodAll_cons_mk harg1 trodAll_mk0), rfl, bel.frame _, fun h => by cases h⟩
end PStP

theorem streams_holds : Rows.PvStreamsSaid :=
  OpenClaim.holds_of_wide 5 Try.f5 rfl rfl rfl rfl rfl rfl rfl ⟨rfl, rfl, rfl, rfl, rfl⟩ rfl rfl rfl rfl rfl (by kernel_rfl) Try.func5 (by kernel_rfl)
    (of_decide_eq_true (by kernel_rfl)) (by unfold Func.isWrapper; first | (rw [if_pos (by decide +kernel)]; kernel_rfl) | (rw [if_neg (by decide +kernel)]; exact ⟨rfl, rfl⟩))
    (fun os started H enc _ => PStP.lifted os started H enc)
#print axioms streams_holds
end Go.Proofs.Ytghlgkpfcpcopaa
