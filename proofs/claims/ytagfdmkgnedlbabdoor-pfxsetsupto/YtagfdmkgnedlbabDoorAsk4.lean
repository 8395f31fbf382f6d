/- Covers and the document's: what each answers, at every two prefixes. -/
import Derived.Test.YtagfdmkgnedlbabDoorAsk3
import Derived.Deep.RegionWith
namespace Go.Proofs.YtagfdmkgnedlbabDoor.Ask
open Go.ChangeShapes Go.WideShapes Go.ChangeAt Go.RowKit Go.Proofs.YtagfdmkgnedlbabDoor.PM
set_option linter.unusedVariables false

set_option maxHeartbeats 1000000 in
theorem covers_any (a n b m : Int) (ha : 0 ≤ a) (ha2 : a < 4294967296) (hb : 0 ≤ b) (hb2 : b < 4294967296) (w : World) :
    Calls Tryd.prog 24 #[.agg #[.int .u32 a, .int .i64 n], .agg #[.int .u32 b, .int .i64 m]] w fun e w' => e = .returned (.bool (cov a n b m)) ∧ Below w.heap.size w w' := by
  by_cases hv : vld b m = true
  · have HV : Hid (vld b m = true) := hv
    by_cases hnm : n ≤ m
    · have Hf : Hid (has a n b = cov a n b m) := by show _ = _; simp [cov, hv, hnm]
      clear hv
      go_enter Tryd.func24, Tryd.ntmps24
      go_wp2_with fail
      refine (valid_yes b m HV.out hb hb2 _).mono ?_
      rintro e w1 ⟨rfl, hb1⟩
      have c00 := hb1.cell (p := ⟨w.heap.size, 0, none⟩) (by simp; omega)
      have c01 := hb1.cell (p := ⟨w.heap.size, 1, none⟩) (by simp; omega)
      have c10 := hb1.cell (p := ⟨w.heap.size + 1, 0, none⟩) (by simp)
      have c11 := hb1.cell (p := ⟨w.heap.size + 1, 1, none⟩) (by simp)
      simp at c00 c01 c10 c11
      go_wp2_with fail
      refine (has_any a n b ha ha2 hb hb2 _).mono ?_
      rintro e w2 ⟨rfl, hb2⟩
      go_wp2_with fail
      go_ret
      have hs := hb1.size
      simp at hs
      exact ⟨ret_bool Hf.out, ((bel2 _ _ _).trans (hb1.mono (by simp; omega))).trans (hb2.mono (by omega))⟩
    · have Hf : Hid (false = cov a n b m) := by show _ = _; simp [cov, hnm]
      have hd : decide (n ≤ m) = false := by simpa using hnm
      clear hv
      go_enter Tryd.func24, Tryd.ntmps24
      go_wp2_with fail
      refine (valid_yes b m HV.out hb hb2 _).mono ?_
      rintro e w1 ⟨rfl, hb1⟩
      have c00 := hb1.cell (p := ⟨w.heap.size, 0, none⟩) (by simp; omega)
      have c01 := hb1.cell (p := ⟨w.heap.size, 1, none⟩) (by simp; omega)
      have c10 := hb1.cell (p := ⟨w.heap.size + 1, 0, none⟩) (by simp)
      have c11 := hb1.cell (p := ⟨w.heap.size + 1, 1, none⟩) (by simp)
      simp at c00 c01 c10 c11
      go_wp2_with fail
      go_ret
      exact ⟨ret_bool Hf.out, ((bel2 _ _ _).trans (hb1.mono (by simp; omega)))⟩
  · have HV : Hid (vld b m = false) := by show _ = _; simpa using hv
    have Hf : Hid (false = cov a n b m) := by show _ = _; simp [cov, HV.out]
    clear hv
    go_enter Tryd.func24, Tryd.ntmps24
    go_wp2_with fail
    refine (valid_no b m HV.out hb hb2 _).mono ?_
    rintro e w1 ⟨rfl, hb1⟩
    go_wp2_with fail
    go_ret
    exact ⟨ret_bool Hf.out, ((bel2 _ _ _).trans (hb1.mono (by simp; omega)))⟩

end Go.Proofs.YtagfdmkgnedlbabDoor.Ask
