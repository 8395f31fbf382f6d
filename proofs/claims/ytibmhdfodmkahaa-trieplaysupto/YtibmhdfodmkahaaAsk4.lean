/- Covers and the document's: what each answers, at every two prefixes. -/
import Derived.Test.YtibmhdfodmkahaaAsk3
import Derived.Deep.RegionWith
namespace Go.Proofs.Ytibmhdfodmkahaa.Ask
open Go.ChangeShapes Go.WideShapes Go.ChangeAt Go.RowKit Go.Proofs.Ytibmhdfodmkahaa.PM
set_option linter.unusedVariables false

set_option maxHeartbeats 1000000 in
theorem covers_any (a n b m : Int) (ha : 0 ≤ a) (ha2 : a < 4294967296) (hb : 0 ≤ b) (hb2 : b < 4294967296) (w : World) :
    Calls Try.prog 41 #[.agg #[.int .u32 a, .int .i64 n], .agg #[.int .u32 b, .int .i64 m]] w fun e w' => e = .returned (.bool (cov a n b m)) ∧ Below w.heap.size w w' := by
  by_cases hv : vld b m = true
  · have HV : Hid (vld b m = true) := hv
    by_cases hnm : n ≤ m
    · have Hf : Hid (has a n b = cov a n b m) := by show _ = _; simp [cov, hv, hnm]
      clear hv
      go_enter Try.func41, Try.ntmps41
      go_wp2_with fail
      refine (valid_yes b m HV.out hb hb2 _).mono ?_
      rintro e w1 ⟨rfl, hb1⟩
      have c00 := hb1.cell (p := ⟨w.heap.size, 0, none⟩) (by simp; omega)
      have c01 := hb1.cell (p := ⟨w.heap.size, 1, none⟩) (by simp; omega)
      have c10 := hb1.cell (p := ⟨w.heap.size + 1, 0, none⟩) (by simp)
      have c11 := hb1.cell (p := ⟨w.heap.size + 1, 1, none⟩) (by simp)
      simp at c00 c01 c10 c11
      go_wp2_with fail
      refine (has_any a n b ha ha2 hb hb2 _).mono ?_
      rintro e w2 ⟨rfl, hb2⟩
      go_wp2_with fail
      go_ret
      have hs := hb1.size
      simp at hs
      exact ⟨ret_bool Hf.out, ((bel2 _ _ _).trans (hb1.mono (by simp; omega))).trans (hb2.mono (by omega))⟩
    · have Hf : Hid (false = cov a n b m) := by show _ = _; simp [cov, hnm]
      have hd : decide (n ≤ m) = false := by simpa using hnm
      clear hv
      go_enter Try.func41, Try.ntmps41
      go_wp2_with fail
      refine (valid_yes b m HV.out hb hb2 _).mono ?_
      rintro e w1 ⟨rfl, hb1⟩
      have c00 := hb1.cell (p := ⟨w.heap.size, 0, none⟩) (by simp; omega)
      have c01 := hb1.cell (p := ⟨w.heap.size, 1, none⟩) (by simp; omega)
      have c10 := hb1.cell (p := ⟨w.heap.size + 1, 0, none⟩) (by simp)
      have c11 := hb1.cell (p := ⟨w.heap.size + 1, 1, none⟩) (by simp)
      simp at c00 c01 c10 c11
      go_wp2_with fail
      go_ret
      exact ⟨ret_bool Hf.out, ((bel2 _ _ _).trans (hb1.mono (by simp; omega)))⟩
  · have HV : Hid (vld b m = false) := by show _ = _; simpa using hv
    have Hf : Hid (false = cov a n b m) := by show _ = _; simp [cov, HV.out]
    clear hv
    go_enter Try.func41, Try.ntmps41
    go_wp2_with fail
    refine (valid_no b m HV.out hb hb2 _).mono ?_
    rintro e w1 ⟨rfl, hb1⟩
    go_wp2_with fail
    go_ret
    exact ⟨ret_bool Hf.out, ((bel2 _ _ _).trans (hb1.mono (by simp; omega)))⟩

set_option maxHeartbeats 1000000 in
theorem rcovers_any (a n b m : Int) (ha : 0 ≤ a) (ha2 : a < 4294967296) (hb : 0 ≤ b) (hb2 : b < 4294967296) (w : World) :
    Calls Try.prog 40 #[.agg #[.int .u32 a, .int .i64 n], .agg #[.int .u32 b, .int .i64 m]] w fun e w' => e = .returned (.bool (cov a n b m)) ∧ Below w.heap.size w w' := by
  obtain ⟨q00, q01, q10, q11⟩ := two_cell w a n b m 33
  have k00 := cell_regrown q00
  have k01 := cell_regrown q01
  have k10 := cell_regrown q10
  have k11 := cell_regrown q11
  clear q00 q01 q10 q11
  by_cases hv : vld a n = true
  · have HV : Hid (vld a n = true) := hv
    by_cases hu : vld b m = true
    · have HU : Hid (vld b m = true) := hu
      by_cases hh : has a n b = true
      · have HH : Hid (has a n b = true) := hh
        have Hf : Hid (has a n (b + psz m - 1) = cov a n b m) := by show _ = _; rw [cov_ref a n b m hv hu hh]; simp [cov, hu, hh]
        have hm := (vld_iff b m).1 hu
        have h0 := hm.1
        have h1 := hm.2.1
        have he := vld_end b m hu hb2
        have hp := psz_pos m
        have hq := psz_le m
        clear hm hv hu hh
        have hw1 : IntKind.u64.wrap b = b := wrap_u64 b hb (by omega)
        have hw2 : IntKind.u64.wrap (b + psz m) = b + psz m := wrap_u64 _ (by omega) (by omega)
        have hw3 : IntKind.u64.wrap (b + psz m - 1) = b + psz m - 1 := wrap_u64 _ (by omega) (by omega)
        have hw4 : IntKind.u32.wrap (b + psz m - 1) = b + psz m - 1 := wrap_u32 _ (by omega) (by omega)
        have hw5 : (b + psz m - 1) % 4294967296 = b + psz m - 1 := by omega
        have hl : 0 ≤ b + psz m - 1 := by omega
        have hl2 : b + psz m - 1 < 4294967296 := by omega
        go_enter Try.func40, Try.ntmps40
        go_wp2_with fail
        refine wp_region_quiet_below (by kernel_rfl) (by kernel_rfl) ?_
        repeat (go_big_quiet_step (first | (go_at_call_of 32 (Value.agg #[.int .u32 a, .int .i64 n]); exact Calls.regrown_of (rvalid_yes a n HV.out ha ha2 _)) | (go_at_call 32; exact Calls.regrown_of (rvalid_yes b m HU.out hb hb2 _)) | (go_at_call 45; exact Calls.regrown_of (size_bel m h0 h1 _)) | (go_at_call_of 38 (Value.int .u32 b); exact Calls.regrown_of (rhas_yes a n b HH.out ha ha2 hb hb2 _)) | (go_at_call 38; exact Calls.regrown_of (rhas_any a n (b + psz m - 1) ha ha2 hl hl2 _))))
        refine wpQuiet_nil ?_
        intro _ hw'
        obtain ⟨⟨dq, osq⟩, hw''⟩ := hw'
        subst hw''
        go_wp2_with fail
        go_ret
        exact ⟨ret_bool Hf.out, bel_two _ _ _ _ _⟩
      · have HH : Hid (has a n b = false) := by show _ = _; simpa using hh
        have Hf : Hid (false = cov a n b m) := by show _ = _; simp [cov, HH.out]
        clear hv hu hh
        go_enter Try.func40, Try.ntmps40
        go_wp2_with fail
        refine wp_region_quiet_below (by kernel_rfl) (by kernel_rfl) ?_
        repeat (go_big_quiet_step (first | (go_at_call_of 32 (Value.agg #[.int .u32 a, .int .i64 n]); exact Calls.regrown_of (rvalid_yes a n HV.out ha ha2 _)) | (go_at_call 32; exact Calls.regrown_of (rvalid_yes b m HU.out hb hb2 _)) | (go_at_call_of 38 (Value.int .u32 b); exact Calls.regrown_of (rhas_no a n b HH.out ha ha2 hb hb2 _))))
        refine wpQuiet_nil ?_
        intro _ hw'
        obtain ⟨⟨dq, osq⟩, hw''⟩ := hw'
        subst hw''
        go_wp2_with fail
        go_ret
        exact ⟨ret_bool Hf.out, bel_two _ _ _ _ _⟩
    · have HU : Hid (vld b m = false) := by show _ = _; simpa using hu
      have Hf : Hid (false = cov a n b m) := by show _ = _; simp [cov, HU.out]
      clear hv hu
      go_enter Try.func40, Try.ntmps40
      go_wp2_with fail
      refine wp_region_quiet_below (by kernel_rfl) (by kernel_rfl) ?_
      repeat (go_big_quiet_step (first | (go_at_call_of 32 (Value.agg #[.int .u32 a, .int .i64 n]); exact Calls.regrown_of (rvalid_yes a n HV.out ha ha2 _)) | (go_at_call 32; exact Calls.regrown_of (rvalid_no b m HU.out hb hb2 _))))
      refine wpQuiet_nil ?_
      intro _ hw'
      obtain ⟨⟨dq, osq⟩, hw''⟩ := hw'
      subst hw''
      go_wp2_with fail
      go_ret
      exact ⟨ret_bool Hf.out, bel_two _ _ _ _ _⟩
  · have HV : Hid (vld a n = false) := by show _ = _; simpa using hv
    have Hf : Hid (false = cov a n b m) := by show _ = _; simp [cov, has, HV.out]
    clear hv
    go_enter Try.func40, Try.ntmps40
    go_wp2_with fail
    refine wp_region_quiet_below (by kernel_rfl) (by kernel_rfl) ?_
    repeat (go_big_quiet_step (first | (go_at_call 32; exact Calls.regrown_of (rvalid_no a n HV.out ha ha2 _))))
    refine wpQuiet_nil ?_
    intro _ hw'
    obtain ⟨⟨dq, osq⟩, hw''⟩ := hw'
    subst hw''
    go_wp2_with fail
    go_ret
    exact ⟨ret_bool Hf.out, bel_two _ _ _ _ _⟩

end Go.Proofs.Ytibmhdfodmkahaa.Ask
