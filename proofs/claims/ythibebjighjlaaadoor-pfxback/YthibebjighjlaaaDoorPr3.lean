/- Print and the document's: what each answers, at every prefix; and PfxPrints. -/
import Derived.Test.YthibebjighjlaaaDoorPr2
import Derived.Test.YthibebjighjlaaaDoorAsk3
namespace Go.Proofs.YthibebjighjlaaaDoor.Pr
open Go.ChangeShapes Go.WideShapes Go.ChangeAt Go.RowKit Go.Shelf Go.Proofs.YthibebjighjlaaaDoor.PM Go.Proofs.YthibebjighjlaaaDoor.Ask
set_option linter.unusedVariables false

/-- the text of an address, as a string -/
def sa (a : Nat) : ByteArray := ⟨(adr a).toArray⟩
theorem sa_size (a : Nat) (ha : a < 4294967296) : (sa a).size ≤ 20 := by
  have := pre_le a ha 4 (by omega)
  simpa [sa, ByteArray.size, pre] using this
/-- the text of a prefix -/
def sp (a n : Nat) : ByteArray := sa a ++ ⟨#[47]⟩ ++ sd n

theorem pa_bel (a : Nat) (x : Int) (hx : (a : Int) = x) (ha : a < 4294967296) (w : World) (htab : Lib.TabIs Tryd.prog w "internal/strconv.uint64pow10" .u64 Lib.pow10Tab) :
    Calls Tryd.prog 6 #[.int .u32 x] w fun e w' => e = .returned (.string (sa a)) ∧ Below w.heap.size w w' := by
  rw [← hx]; exact printAddr_any a ha w htab
theorem ra_bel (a : Nat) (x : Int) (hx : (a : Int) = x) (ha : a < 4294967296) (w : World) :
    Calls Tryd.prog 7 #[.int .u32 x] w fun e w' => e = .returned (.string (sa a)) ∧ Below w.heap.size w w' := by
  rw [← hx]; exact rprintAddr_any a ha w
theorem it_bel (n : Nat) (hn : n ≤ 32) (x : Int) (hx : (n : Int) = x) (w : World) :
    Calls Tryd.prog 19 #[.int .i64 x] w fun e w' => e = .returned (.string (sd n)) ∧ Below w.heap.size w w' := by
  rw [← hx]
  exact (Tryd.strconv_Itoa_small n (by omega) w).mono fun e w' ⟨he, hw⟩ => ⟨he, by rw [hw]; exact Below.refl _ _⟩

set_option maxHeartbeats 1000000 in
theorem print_yes (a n : Nat) (ha : a < 4294967296) (hn : n ≤ 32) (hv : vld a n = true) (w : World) (hT : Pow w.heap.size w) :
    Calls Tryd.prog 8 #[.agg #[.int .u32 a, .int .i64 n]] w fun e w' => e = .returned (.string (sp a n)) ∧ Below w.heap.size w w' := by
  have HT : Hid (Pow w.heap.size w) := hT
  have HV : Hid (vld a n = true) := hv
  have z0 := sa_size a ha
  have z1 : (sd n).size ≤ 3 := by rw [sd_size]; have := dec_len3 n (by omega); omega
  clear hT hv
  go_enter Tryd.func8, Tryd.ntmps8
  go_wp2_with fail
  refine (valid_yes a n HV.out (by omega) (by omega) _).mono ?_
  rintro e w1 ⟨rfl, hb1⟩
  have c0 := hb1.cell (p := ⟨w.heap.size, 0, none⟩) (by simp)
  have c1 := hb1.cell (p := ⟨w.heap.size, 1, none⟩) (by simp)
  simp at c0 c1
  have k0 := cell_regrown c0
  have k1 := cell_regrown c1
  have HB : Hid (Below w.heap.size w w1) := ((Below.refl _ _).alloc (Nat.le_refl _) _).trans (hb1.mono (by simp))
  clear c0 c1 hb1
  go_wp2_with fail
  refine wp_region_quiet_below (by kernel_rfl) (by kernel_rfl) ?_
  repeat (go_big_quiet_step (first | (go_at_call 6; exact Calls.regrown_of (pa_bel a _ rfl ha _ (HT.out _ (HB.out.trans ((below_regrown _ _ _).mono HB.out.size))))) | (go_at_call 19; exact Calls.regrown_of (it_bel n hn _ rfl _))))
  refine wpQuiet_nil ?_
  intro _ hw'
  obtain ⟨⟨dq, osq⟩, hw''⟩ := hw'
  subst hw''
  go_wp2_with fail
  go_ret
  exact ⟨rfl, HB.out.trans ((below_regrown _ _ _).mono HB.out.size)⟩
set_option maxHeartbeats 1000000 in
theorem print_no (a n : Int) (ha : 0 ≤ a) (ha2 : a < 4294967296) (hv : vld a n = false) (w : World) :
    Calls Tryd.prog 8 #[.agg #[.int .u32 a, .int .i64 n]] w fun e w' => e = .returned (.string ⟨#[]⟩) ∧ Below w.heap.size w w' := by
  have HV : Hid (vld a n = false) := hv
  clear hv
  go_enter Tryd.func8, Tryd.ntmps8
  go_wp2_with fail
  refine (valid_no a n HV.out ha ha2 _).mono ?_
  rintro e w1 ⟨rfl, hb1⟩
  go_wp2_with fail
  go_ret
  exact ⟨rfl, ((Below.refl _ _).alloc (Nat.le_refl _) _).trans (hb1.mono (by simp))⟩
set_option maxHeartbeats 1000000 in
theorem rprint_yes (a n : Nat) (ha : a < 4294967296) (hn : n ≤ 32) (hv : vld a n = true) (w : World) :
    Calls Tryd.prog 9 #[.agg #[.int .u32 a, .int .i64 n]] w fun e w' => e = .returned (.string (sp a n)) ∧ Below w.heap.size w w' := by
  have HV : Hid (vld a n = true) := hv
  have z0 := sa_size a ha
  have z1 : (sd n).size ≤ 3 := by rw [sd_size]; have := dec_len3 n (by omega); omega
  clear hv
  go_enter Tryd.func9, Tryd.ntmps9
  go_wp2_with fail
  refine (rvalid_yes a n HV.out (by omega) (by omega) _).mono ?_
  rintro e w1 ⟨rfl, hb1⟩
  have c0 := hb1.cell (p := ⟨w.heap.size, 0, none⟩) (by simp)
  have c1 := hb1.cell (p := ⟨w.heap.size, 1, none⟩) (by simp)
  simp at c0 c1
  have k0 := cell_regrown c0
  have k1 := cell_regrown c1
  have HB : Hid (Below w.heap.size w w1) := ((Below.refl _ _).alloc (Nat.le_refl _) _).trans (hb1.mono (by simp))
  clear c0 c1 hb1
  go_wp2_with fail
  refine wp_region_quiet_below (by kernel_rfl) (by kernel_rfl) ?_
  repeat (go_big_quiet_step (first | (go_at_call 7; exact Calls.regrown_of (ra_bel a _ rfl ha _)) | (go_at_call 18; exact Calls.regrown_of (dec_int n (by omega) _ rfl _))))
  refine wpQuiet_nil ?_
  intro _ hw'
  obtain ⟨⟨dq, osq⟩, hw''⟩ := hw'
  subst hw''
  go_wp2_with fail
  go_ret
  exact ⟨rfl, HB.out.trans ((below_regrown _ _ _).mono HB.out.size)⟩
set_option maxHeartbeats 1000000 in
theorem rprint_no (a n : Int) (ha : 0 ≤ a) (ha2 : a < 4294967296) (hv : vld a n = false) (w : World) :
    Calls Tryd.prog 9 #[.agg #[.int .u32 a, .int .i64 n]] w fun e w' => e = .returned (.string ⟨#[]⟩) ∧ Below w.heap.size w w' := by
  have HV : Hid (vld a n = false) := hv
  clear hv
  go_enter Tryd.func9, Tryd.ntmps9
  go_wp2_with fail
  refine (rvalid_no a n HV.out ha ha2 _).mono ?_
  rintro e w1 ⟨rfl, hb1⟩
  go_wp2_with fail
  go_ret
  exact ⟨rfl, ((Below.refl _ _).alloc (Nat.le_refl _) _).trans (hb1.mono (by simp))⟩

theorem print_any (a n : Int) (ha : 0 ≤ a) (ha2 : a < 4294967296) : ∃ t : ByteArray,
    (∀ w : World, Pow w.heap.size w → Calls Tryd.prog 8 #[.agg #[.int .u32 a, .int .i64 n]] w fun e w' => e = .returned (.string t) ∧ Below w.heap.size w w') ∧
    (∀ w : World, Calls Tryd.prog 9 #[.agg #[.int .u32 a, .int .i64 n]] w fun e w' => e = .returned (.string t) ∧ Below w.heap.size w w') := by
  by_cases hv : vld a n = true
  · have h := (vld_iff a n).1 hv
    obtain ⟨a', rfl⟩ := Int.eq_ofNat_of_zero_le ha
    obtain ⟨n', rfl⟩ := Int.eq_ofNat_of_zero_le h.1
    exact ⟨sp a' n', fun w hT => print_yes a' n' (by omega) (by omega) hv w hT, fun w => rprint_yes a' n' (by omega) (by omega) hv w⟩
  · exact ⟨⟨#[]⟩, fun w _ => print_no a n ha ha2 (by simpa using hv) w, fun w => rprint_no a n ha ha2 (by simpa using hv) w⟩

set_option maxHeartbeats 1000000 in
theorem prints_any (x : Nat) (hx : x < 4294967296) (a n : Int) (ha : 0 ≤ a) (ha2 : a < 4294967296) (w : World) (hT : Pow w.heap.size w) :
    Calls Tryd.prog 3 #[.int .u32 x, .agg #[.int .u32 a, .int .i64 n]] w fun e w' => e = .returned (.bool true) ∧ Below w.heap.size w w' := by
  have HT : Hid (Pow w.heap.size w) := hT
  obtain ⟨t, h1, h2⟩ := print_any a n ha ha2
  have H1 : Hid (∀ w : World, _) := h1
  have H2 : Hid (∀ w : World, _) := h2
  have k0 := box_cell0 w a n 24
  have k1 := box_cell1 w a n 24
  have hp : ∀ d os, Hid (Below w.heap.size w (Sort.grow (redrawn (w.alloc (.cells #[.int .u32 a, .int .i64 n] 24)) d) os)) := fun d os => bel_box _ _ _ _
  clear hT h1 h2
  go_enter Tryd.func3, Tryd.ntmps3
  go_wp2_with fail
  refine wp_region_quiet_below (by kernel_rfl) (by kernel_rfl) ?_
  repeat (go_big_quiet_step (first | (go_at_call 6; exact Calls.regrown_of (pa_bel x _ rfl hx _ (HT.out _ (hp _ _).out))) | (go_at_call 7; exact Calls.regrown_of (ra_bel x _ rfl hx _)) | (go_at_call 8; exact Calls.regrown_of (H1.out _ (fun w' hb => HT.out w' ((hp _ _).out.trans (hb.mono (hp _ _).out.size))))) | (go_at_call 9; exact Calls.regrown_of (H2.out _))))
  refine wpQuiet_nil ?_
  intro _ hw'
  obtain ⟨⟨dq, osq⟩, hw''⟩ := hw'
  subst hw''
  go_wp2_with fail
  go_ret
  exact ⟨rfl, bel_box _ _ _ _⟩
end Go.Proofs.YthibebjighjlaaaDoor.Pr
