/- PfxReads answers true: ParseAddr and Parse answer as the document's, at every text. No conditions. -/
import Derived.Test.YthibebjighjlaaaReadA
import Derived.ShutString
namespace Go.Proofs.Ythibebjighjlaaa
open Go.ChangeShapes Go.WideShapes Go.ChangeAt Go.RowKit
open Go.ChangeMaps (open_string shut_string)
namespace ReadsP
open Go.Proofs.Ythibebjighjlaaa.Rd Go.Proofs.Ythibebjighjlaaa.TM
set_option linter.unusedVariables false

theorem own : ownKnob Try.prog.godebug = none := by kernel_rfl

theorem pa_s (s : ByteArray) (x y : Int) (h : paR s.data.toList = (x, y)) (hs : s.size ≤ maxLen) (w : World) :
    Calls Try.prog 7 #[.string s] w fun e w' => e = .returned (.tuple #[.int .u32 x, .int .i64 y]) ∧ Below w.heap.size w w' := by
  have := parseAddr_any s.data.toList w hs
  rw [bs_data, pa_same, h] at this
  exact this
theorem pr_s (s : ByteArray) (x y : Int) (h : paR s.data.toList = (x, y)) (hs : s.size ≤ maxLen) (w : World) :
    Calls Try.prog 8 #[.string s] w fun e w' => e = .returned (.tuple #[.int .u32 x, .int .i64 y]) ∧ w' = w := by
  have := rparseAddr_any s w hs
  rw [h] at this
  exact this
theorem qa_s (s : ByteArray) (x n y : Int) (h : prR s.data.toList = (x, n, y)) (hs : s.size ≤ maxLen) (w : World) :
    Calls Try.prog 9 #[.string s] w fun e w' => e = .returned (.tuple #[.agg #[.int .u32 x, .int .i64 n], .int .i64 y]) ∧ Below w.heap.size w w' := by
  have := parse_any s.data.toList w hs
  rw [bs_data, pr_same, h] at this
  exact this
theorem qr_s (s : ByteArray) (x n y : Int) (h : prR s.data.toList = (x, n, y)) (hs : s.size ≤ maxLen) (w : World) :
    Calls Try.prog 10 #[.string s] w fun e w' => e = .returned (.tuple #[.agg #[.int .u32 x, .int .i64 n], .int .i64 y]) ∧ Below w.heap.size w w' := by
  have := rparse_any s w hs
  rw [h] at this
  exact this

set_option maxHeartbeats 4000000 in
theorem walk (s : ByteArray) (w : World) (hs : s.size ≤ maxLen) :
    Calls Try.prog 4 #[.string s] w fun e w' => e = .returned (.bool true) ∧ Below w.heap.size w w' := by
  obtain ⟨x, y, h1⟩ : ∃ x y, paR s.data.toList = (x, y) := ⟨_, _, rfl⟩
  obtain ⟨x2, n2, y2, h2⟩ : ∃ x n y, prR s.data.toList = (x, n, y) := ⟨_, _, _, rfl⟩
  have H1 : Hid (_ = _) := h1
  have H2 : Hid (_ = _) := h2
  clear h1 h2
  go_enter Try.func4, Try.ntmps4
  go_wp2_with fail
  refine (pa_s s x y H1.out hs _).mono ?_
  rintro e w1 ⟨rfl, hb1⟩
  go_wp2_with fail
  refine (pr_s s x y H1.out hs _).mono ?_
  rintro e w2 ⟨rfl, rfl⟩
  go_wp2_with fail
  refine (qa_s s x2 n2 y2 H2.out hs _).mono ?_
  rintro e w2 ⟨rfl, hb2⟩
  go_wp2_with fail
  refine (qr_s s x2 n2 y2 H2.out hs _).mono ?_
  rintro e w3 ⟨rfl, hb3⟩
  have p0 := hb3.cell (p := ⟨w2.heap.size, 0, none⟩) (by simp)
  have p1 := hb3.cell (p := ⟨w2.heap.size, 1, none⟩) (by simp)
  simp at p0 p1
  have hz2 : w2.heap.size < w3.heap.size := by have := hb3.size; simp at this; omega
  go_wp2_with fail
  go_ret
  have s1 := hb1.size
  have s2 := hb2.size
  exact ⟨rfl, ((((hb1.trans (hb2.mono s1)).alloc (by omega) _).trans (hb3.mono (by simp; omega)))).alloc (by omega) _⟩

set_option maxRecDepth 100000 in
theorem lifted (os : Os) (started : os.Started) (H : Type) (enc : TypeId × Value → H) :
    ReturnsInHanded {} Try.checked os 4 .any (Rows.pfxReadsSpec.pre6 enc Try.prog Try.f4 Rows.pfxReadsRow.domain false) (Rows.pfxReadsSpec.post enc Try.prog Try.f4 false true false false) := by
  refine returnsInHanded_of_change (C := Try.checked) own started (by kernel_rfl) Try.func4
    (ChangeSpec.witness6 (enc := enc) (C := Try.checked) false ⟨#[], #[.string ⟨#[]⟩], []⟩ 8 (by kernel_rfl) (by kernel_rfl) (by kernel_rfl) (by kernel_rfl)) ?_
  intro W base args ds gs before hval0 hW hcnd _
  have hval : ∀ (j : Nat) t v, Try.f4.params[j]? = some t → args[j]? = some v → Value.okWide Try.prog W .any base t v := hval0
  have hW' := hW
  obtain ⟨p, q, hA0, hV, rfl, hfz, hnd⟩ := hW
  have hA : DataW.TrodAll enc Try.prog W 0 (fun _ => true) true Try.f4.params.toList args.toList ds p := hA0
  rw [Try.params4] at hA hval
  obtain ⟨v0, vs0, d0, ds0, p0, q0, hargs, rfl, rfl, h0, r0⟩ := trodAll_cons hA
  obtain ⟨rfl, rfl, rfl⟩ := trodAll_nil r0
  obtain rfl : args = #[v0] := by cases args; simp_all
  obtain ⟨rfl, rfl⟩ := trodVars_none hV
  obtain ⟨s, rfl, rfl, rfl, hs⟩ := open_string Try.underlying9 (hval 0 9 v0 rfl rfl) h0
  clear hA0 hval0
  refine (walk s W hs).mono fun e W' ⟨he, bel⟩ => ?_
  subst he
  exact ⟨_, rfl, _, _, _, [], [], [], hW', trodAll_mk1 (shut_bool Try.underlying4 _), (trodAll_cons_mk (shut_string Try.underlying9 hs) trodAll_mk0), rfl, bel.frame _, fun h => by cases h⟩
end ReadsP

theorem reads_holds : Rows.PfxReadsSaid :=
  OpenClaim.holds_of_wide 4 Try.f4 rfl rfl rfl rfl rfl rfl rfl ⟨rfl, rfl, rfl, rfl, rfl⟩ rfl rfl rfl rfl rfl (by kernel_rfl) Try.func4 (by kernel_rfl)
    (of_decide_eq_true (by kernel_rfl)) (by unfold Func.isWrapper; first | (rw [if_pos (by decide +kernel)]; kernel_rfl) | (rw [if_neg (by decide +kernel)]; exact ⟨rfl, rfl⟩))
    (fun os started H enc _ => ReadsP.lifted os started H enc)
#print axioms reads_holds
end Go.Proofs.Ythibebjighjlaaa
