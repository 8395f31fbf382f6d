/- Has, Covers, Order and the document's: what each answers, at every prefix and address. -/
import Derived.Test.YtibmhdfodmkahaaAsk1
import Derived.Lib.QuietBelow
namespace Go.Proofs.Ytibmhdfodmkahaa.Ask
open Go.ChangeShapes Go.WideShapes Go.ChangeAt Go.RowKit Go.Proofs.Ytibmhdfodmkahaa.PM
set_option linter.unusedVariables false

theorem valid_yes (a n : Int) (hv : vld a n = true) (ha : 0 ≤ a) (ha2 : a < 4294967296) (w : World) :
    Calls Try.prog 30 #[.agg #[.int .u32 a, .int .i64 n]] w fun e w' => e = .returned (.bool true) ∧ Below w.heap.size w w' := by
  have := valid_any a n ha ha2 w; rwa [hv] at this
theorem valid_no (a n : Int) (hv : vld a n = false) (ha : 0 ≤ a) (ha2 : a < 4294967296) (w : World) :
    Calls Try.prog 30 #[.agg #[.int .u32 a, .int .i64 n]] w fun e w' => e = .returned (.bool false) ∧ Below w.heap.size w w' := by
  have := valid_any a n ha ha2 w; rwa [hv] at this
theorem mask_bel (n : Int) (h0 : 0 ≤ n) (h1 : n ≤ 32) (w : World) :
    Calls Try.prog 37 #[.int .i64 n] w fun e w' => e = .returned (.int .u32 (msk n)) ∧ Below w.heap.size w w' :=
  (mask_any n h0 h1 w).mono fun e w' ⟨he, hw⟩ => ⟨he, by rw [hw]; exact Below.refl _ _⟩
theorem size_bel (n : Int) (h0 : 0 ≤ n) (h1 : n ≤ 32) (w : World) :
    Calls Try.prog 45 #[.int .i64 n] w fun e w' => e = .returned (.int .u64 (psz n)) ∧ Below w.heap.size w w' :=
  (size_any n h0 h1 w).mono fun e w' ⟨he, hw⟩ => ⟨he, by rw [hw]; exact Below.refl _ _⟩

/-- the world with a prefix boxed -/
theorem box_cell0 (w : World) (a n : Int) (T : TypeId) (d : Nat) (os : Array Obj) : (Sort.grow (redrawn (w.alloc (.cells #[.int .u32 a, .int .i64 n] T)) d) os).cell? ⟨w.heap.size, 0, none⟩ = some (.int .u32 a) := cell_regrown (by simp) d os
theorem box_cell1 (w : World) (a n : Int) (T : TypeId) (d : Nat) (os : Array Obj) : (Sort.grow (redrawn (w.alloc (.cells #[.int .u32 a, .int .i64 n] T)) d) os).cell? ⟨w.heap.size, 1, none⟩ = some (.int .i64 n) := cell_regrown (by simp) d os
theorem bel_box (w : World) (o : Obj) (d : Nat) (os : Array Obj) : Below w.heap.size w (Sort.grow (redrawn (w.alloc o) d) os) :=
  ((Below.refl _ _).alloc (Nat.le_refl _) _).trans ((below_regrown _ d os).mono (by simp))

set_option maxHeartbeats 1000000 in
theorem has_any (a n x : Int) (ha : 0 ≤ a) (ha2 : a < 4294967296) (hx : 0 ≤ x) (hx2 : x < 4294967296) (w : World) :
    Calls Try.prog 14 #[.agg #[.int .u32 a, .int .i64 n], .int .u32 x] w fun e w' => e = .returned (.bool (has a n x)) ∧ Below w.heap.size w w' := by
  have k0 := box_cell0 w a n 33
  have k1 := box_cell1 w a n 33
  by_cases hv : vld a n = true
  · have h01 := (vld_iff a n).1 hv
    have h0 := h01.1
    have h1 := h01.2.1
    clear h01
    have HV : Hid (vld a n = true) := hv
    clear hv
    go_enter Try.func14, Try.ntmps14
    go_wp2_with fail
    refine wp_region_quiet_below (by kernel_rfl) (by kernel_rfl) ?_
    repeat (go_big_quiet_step (first | (go_at_call 30; exact Calls.regrown_of (valid_yes a n HV.out ha ha2 _)) | (go_at_call 37; exact Calls.regrown_of (mask_bel n h0 h1 _))))
    refine wpQuiet_nil ?_
    intro _ hw'
    obtain ⟨⟨dq, osq⟩, hw''⟩ := hw'
    subst hw''
    go_wp2_with fail
    go_ret
    exact ⟨ret_bool (by rw [and_mask x n hx hx2]; exact has_mask a n x HV.out), bel_box _ _ _ _⟩
  · have hv' : Hid (vld a n = false) := by show vld a n = false; simpa using hv
    have Hf : Hid (false = has a n x) := by show false = _; simp [has, hv'.out]
    clear hv
    go_enter Try.func14, Try.ntmps14
    go_wp2_with fail
    refine wp_region_quiet_below (by kernel_rfl) (by kernel_rfl) ?_
    repeat (go_big_quiet_step (first | (go_at_call 30; exact Calls.regrown_of (valid_no a n hv'.out ha ha2 _))))
    refine wpQuiet_nil ?_
    intro _ hw'
    obtain ⟨⟨dq, osq⟩, hw''⟩ := hw'
    subst hw''
    go_wp2_with fail
    go_ret
    exact ⟨ret_bool Hf.out, bel_box _ _ _ _⟩

end Go.Proofs.Ytibmhdfodmkahaa.Ask
