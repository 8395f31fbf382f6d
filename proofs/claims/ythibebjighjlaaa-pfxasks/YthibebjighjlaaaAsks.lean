/- PfxAsks answers true: Valid, Has, Covers and Order answer as the document's, at every two prefixes and every address. No conditions. -/
import Derived.Test.YthibebjighjlaaaAsk4
import Derived.Lib.SmallJoins
namespace Go.Proofs.Ythibebjighjlaaa
open Go.ChangeShapes Go.WideShapes Go.ChangeAt Go.RowKit Go.Joins Go.Proofs.Ythibebjighjlaaa.Ask
namespace AsksP
set_option linter.unusedVariables false

theorem own : ownKnob Try.prog.godebug = none := by kernel_rfl
theorem cellsP : Try.prog.cellsOf 31 = 2 := by kernel_rfl

set_option maxRecDepth 100000 in
theorem lifted (os : Os) (started : os.Started) (H : Type) (enc : TypeId × Value → H) :
    ReturnsInHanded {} Try.checked os 5 .any (Rows.pfxAsksSpec.pre6 enc Try.prog Try.f5 Rows.pfxAsksRow.domain false) (Rows.pfxAsksSpec.post enc Try.prog Try.f5 false true false false) := by
  refine returnsInHanded_of_change (C := Try.checked) own started (by kernel_rfl) Try.func5
    (ChangeSpec.witness6 (enc := enc) (C := Try.checked) false ⟨#[], #[.agg #[.int .u32 0, .int .i64 0], .agg #[.int .u32 0, .int .i64 0], .int .u32 0], []⟩ 8 (by kernel_rfl) (by kernel_rfl) (by kernel_rfl) (by kernel_rfl)) ?_
  intro W base args ds gs before hval0 hW hcnd _
  have hval : ∀ (j : Nat) t v, Try.f5.params[j]? = some t → args[j]? = some v → Value.okWide Try.prog W .any base t v := hval0
  have hW' := hW
  obtain ⟨p, q, hA0, hV, rfl, hfz, hnd⟩ := hW
  have hA : DataW.TrodAll enc Try.prog W 0 (fun _ => true) true Try.f5.params.toList args.toList ds p := hA0
  rw [Try.params5] at hA hval
  obtain ⟨v0, vs0, d0, ds0, p0, q0, hargs, rfl, rfl, h0, r0⟩ := trodAll_cons hA
  obtain ⟨v1, vs1, d1, ds1, p1, q1, rfl, rfl, rfl, h1, r1⟩ := trodAll_cons r0
  obtain ⟨v2, vs2, d2, ds2, p2, q2, rfl, rfl, rfl, h2, r2⟩ := trodAll_cons r1
  obtain ⟨rfl, rfl, rfl⟩ := trodAll_nil r2
  obtain rfl : args = #[v0, v1, v2] := by cases args; simp_all
  obtain ⟨rfl, rfl⟩ := trodVars_none hV
  obtain ⟨c0, c1, y0, y1, m, rfl, rfl, rfl, hy0, hy1⟩ := open_agg2 Try.underlying31 (by kernel_rfl) cellsP (hval 0 31 v0 rfl rfl) h0
  obtain ⟨a0, e0, rfl, wa⟩ := DataW.trod_int Try.underlying27 hy0
  obtain ⟨n0, e1, rfl, wn⟩ := DataW.trod_int Try.underlying3 hy1
  simp at e0 e1
  subst e0 e1
  obtain ⟨c2, c3, y2, y3, m2, rfl, rfl, rfl, hy2, hy3⟩ := open_agg2 Try.underlying31 (by kernel_rfl) cellsP (hval 1 31 v1 rfl rfl) h1
  obtain ⟨b0, e2, rfl, wb⟩ := DataW.trod_int Try.underlying27 hy2
  obtain ⟨m0, e3, rfl, wm⟩ := DataW.trod_int Try.underlying3 hy3
  simp at e2 e3
  subst e2 e3
  obtain ⟨x0, rfl, rfl, rfl, wx⟩ := open_int Try.underlying27 (hval 2 27 v2 rfl rfl) h2
  have ba := bounds_u32 wa
  have bb := bounds_u32 wb
  have bx := bounds_u32 wx
  clear hA0 hval0
  refine (asks_any a0 n0 b0 m0 x0 ba.1 (by omega) bb.1 (by omega) bx.1 (by omega) W).mono fun e W' ⟨he, bel⟩ => ?_
  subst he
  exact ⟨_, rfl, _, _, _, [], [], [], hW', trodAll_mk1 (shut_bool Try.underlying4 _),
    (trodAll_cons_mk (shut_agg2 (y0 := (.lit (.int .u32 a0), [])) (y1 := (.lit (.int .i64 n0), [])) Try.underlying31 (by kernel_rfl) cellsP ⟨1, by simp [DataW.trod, Try.underlying27, wa]⟩ ⟨1, by simp [DataW.trod, Try.underlying3, wn]⟩)
      (trodAll_cons_mk (shut_agg2 (y0 := (.lit (.int .u32 b0), [])) (y1 := (.lit (.int .i64 m0), [])) Try.underlying31 (by kernel_rfl) cellsP ⟨1, by simp [DataW.trod, Try.underlying27, wb]⟩ ⟨1, by simp [DataW.trod, Try.underlying3, wm]⟩)
        (trodAll_cons_mk (shut_int Try.underlying27 wx) trodAll_mk0))), rfl, bel.frame _, fun h => by cases h⟩
end AsksP

theorem asks_holds : Rows.PfxAsksSaid :=
  OpenClaim.holds_of_wide 5 Try.f5 rfl rfl rfl rfl rfl rfl rfl ⟨rfl, rfl, rfl, rfl, rfl⟩ rfl rfl rfl rfl rfl (by kernel_rfl) Try.func5 (by kernel_rfl)
    (of_decide_eq_true (by kernel_rfl)) (by unfold Func.isWrapper; first | (rw [if_pos (by decide +kernel)]; kernel_rfl) | (rw [if_neg (by decide +kernel)]; exact ⟨rfl, rfl⟩))
    (fun os started H enc _ => AsksP.lifted os started H enc)
#print axioms asks_holds
end Go.Proofs.Ythibebjighjlaaa
