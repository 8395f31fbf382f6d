/- The document's Has, and Covers, Order and the document's: what each answers, at every prefix and address. -/
import Derived.Test.YtibmhdfodmkahaaAsk2
namespace Go.Proofs.Ytibmhdfodmkahaa.Ask
open Go.ChangeShapes Go.WideShapes Go.ChangeAt Go.RowKit Go.Proofs.Ytibmhdfodmkahaa.PM
set_option linter.unusedVariables false

theorem rvalid_yes (a n : Int) (hv : vld a n = true) (ha : 0 ≤ a) (ha2 : a < 4294967296) (w : World) :
    Calls Try.prog 32 #[.agg #[.int .u32 a, .int .i64 n]] w fun e w' => e = .returned (.bool true) ∧ Below w.heap.size w w' := by
  have := rvalid_any a n ha ha2 w; rwa [hv] at this
theorem rvalid_no (a n : Int) (hv : vld a n = false) (ha : 0 ≤ a) (ha2 : a < 4294967296) (w : World) :
    Calls Try.prog 32 #[.agg #[.int .u32 a, .int .i64 n]] w fun e w' => e = .returned (.bool false) ∧ Below w.heap.size w w' := by
  have := rvalid_any a n ha ha2 w; rwa [hv] at this

theorem wrap_u64 (x : Int) (h0 : 0 ≤ x) (h1 : x < 18446744073709551616) : IntKind.u64.wrap x = x := by
  simp only [IntKind.wrap, IntKind.bits, IntKind.signed]; simp; omega
theorem wrap_u32 (x : Int) (h0 : 0 ≤ x) (h1 : x < 4294967296) : IntKind.u32.wrap x = x := by
  simp only [IntKind.wrap, IntKind.bits, IntKind.signed]; simp; omega

theorem rhas_low (a n x : Int) (h : ¬ a ≤ x) : false = has a n x := by
  symm; rw [← Bool.not_eq_true, has_iff]; omega
theorem rhas_in (a n x : Int) (hv : vld a n = true) (h : a ≤ x) : decide (x - a < psz n) = has a n x := by
  rw [Bool.eq_iff_iff, has_iff, decide_eq_true_iff]
  have := (vld_iff a n).1 hv
  constructor
  · intro k; exact ⟨this, h, by omega⟩
  · intro k; omega

set_option maxHeartbeats 1000000 in
theorem rhas_any (a n x : Int) (ha : 0 ≤ a) (ha2 : a < 4294967296) (hx : 0 ≤ x) (hx2 : x < 4294967296) (w : World) :
    Calls Try.prog 38 #[.agg #[.int .u32 a, .int .i64 n], .int .u32 x] w fun e w' => e = .returned (.bool (has a n x)) ∧ Below w.heap.size w w' := by
  have k0 := box_cell0 w a n 33
  have k1 := box_cell1 w a n 33
  by_cases hv : vld a n = true
  · have h01 := (vld_iff a n).1 hv
    have h0 := h01.1
    have h1 := h01.2.1
    clear h01
    have HV : Hid (vld a n = true) := hv
    clear hv
    by_cases hax : a ≤ x
    · have Hf : Hid (decide (x - a < psz n) = has a n x) := rhas_in a n x HV.out hax
      have hw1 : IntKind.u64.wrap x = x := wrap_u64 x hx (by omega)
      have hw2 : IntKind.u64.wrap a = a := wrap_u64 a ha (by omega)
      have hw3 : IntKind.u64.wrap (x - a) = x - a := wrap_u64 _ (by omega) (by omega)
      go_enter Try.func38, Try.ntmps38
      go_wp2_with fail
      refine wp_region_quiet_below (by kernel_rfl) (by kernel_rfl) ?_
      repeat (go_big_quiet_step (first | (go_at_call 32; exact Calls.regrown_of (rvalid_yes a n HV.out ha ha2 _)) | (go_at_call 45; exact Calls.regrown_of (size_bel n h0 h1 _))))
      refine wpQuiet_nil ?_
      intro _ hw'
      obtain ⟨⟨dq, osq⟩, hw''⟩ := hw'
      subst hw''
      go_wp2_with fail
      go_ret
      exact ⟨ret_bool Hf.out, bel_box _ _ _ _⟩
    · have Hf : Hid (false = has a n x) := rhas_low a n x hax
      have hd : decide (a ≤ x) = false := by simpa using hax
      go_enter Try.func38, Try.ntmps38
      go_wp2_with fail
      refine wp_region_quiet_below (by kernel_rfl) (by kernel_rfl) ?_
      repeat (go_big_quiet_step (first | (go_at_call 32; exact Calls.regrown_of (rvalid_yes a n HV.out ha ha2 _))))
      refine wpQuiet_nil ?_
      intro _ hw'
      obtain ⟨⟨dq, osq⟩, hw''⟩ := hw'
      subst hw''
      go_wp2_with fail
      go_ret
      exact ⟨ret_bool Hf.out, bel_box _ _ _ _⟩
  · have hv' : Hid (vld a n = false) := by show vld a n = false; simpa using hv
    have Hf : Hid (false = has a n x) := by show false = _; simp [has, hv'.out]
    clear hv
    go_enter Try.func38, Try.ntmps38
    go_wp2_with fail
    refine wp_region_quiet_below (by kernel_rfl) (by kernel_rfl) ?_
    repeat (go_big_quiet_step (first | (go_at_call 32; exact Calls.regrown_of (rvalid_no a n hv'.out ha ha2 _))))
    refine wpQuiet_nil ?_
    intro _ hw'
    obtain ⟨⟨dq, osq⟩, hw''⟩ := hw'
    subst hw''
    go_wp2_with fail
    go_ret
    exact ⟨ret_bool Hf.out, bel_box _ _ _ _⟩

/-- two prefixes boxed, one behind the other -/
theorem two_cell (w : World) (a n b m : Int) (T : TypeId) :
    ((w.alloc (.cells #[.int .u32 a, .int .i64 n] T)).alloc (.cells #[.int .u32 b, .int .i64 m] T)).cell? ⟨w.heap.size, 0, none⟩ = some (.int .u32 a) ∧
    ((w.alloc (.cells #[.int .u32 a, .int .i64 n] T)).alloc (.cells #[.int .u32 b, .int .i64 m] T)).cell? ⟨w.heap.size, 1, none⟩ = some (.int .i64 n) ∧
    ((w.alloc (.cells #[.int .u32 a, .int .i64 n] T)).alloc (.cells #[.int .u32 b, .int .i64 m] T)).cell? ⟨w.heap.size + 1, 0, none⟩ = some (.int .u32 b) ∧
    ((w.alloc (.cells #[.int .u32 a, .int .i64 n] T)).alloc (.cells #[.int .u32 b, .int .i64 m] T)).cell? ⟨w.heap.size + 1, 1, none⟩ = some (.int .i64 m) := by
  refine ⟨?_, ?_, ?_, ?_⟩ <;> simp
theorem bel_two (w : World) (o1 o2 : Obj) (d : Nat) (os : Array Obj) : Below w.heap.size w (Sort.grow (redrawn ((w.alloc o1).alloc o2) d) os) :=
  (((Below.refl _ _).alloc (Nat.le_refl _) _).alloc (by simp) _).trans ((below_regrown _ d os).mono (by simp; omega))

theorem has_yes (a n x : Int) (hv : has a n x = true) (ha : 0 ≤ a) (ha2 : a < 4294967296) (hx : 0 ≤ x) (hx2 : x < 4294967296) (w : World) :
    Calls Try.prog 14 #[.agg #[.int .u32 a, .int .i64 n], .int .u32 x] w fun e w' => e = .returned (.bool true) ∧ Below w.heap.size w w' := by
  have := has_any a n x ha ha2 hx hx2 w; rwa [hv] at this
theorem has_no (a n x : Int) (hv : has a n x = false) (ha : 0 ≤ a) (ha2 : a < 4294967296) (hx : 0 ≤ x) (hx2 : x < 4294967296) (w : World) :
    Calls Try.prog 14 #[.agg #[.int .u32 a, .int .i64 n], .int .u32 x] w fun e w' => e = .returned (.bool false) ∧ Below w.heap.size w w' := by
  have := has_any a n x ha ha2 hx hx2 w; rwa [hv] at this
theorem rhas_yes (a n x : Int) (hv : has a n x = true) (ha : 0 ≤ a) (ha2 : a < 4294967296) (hx : 0 ≤ x) (hx2 : x < 4294967296) (w : World) :
    Calls Try.prog 38 #[.agg #[.int .u32 a, .int .i64 n], .int .u32 x] w fun e w' => e = .returned (.bool true) ∧ Below w.heap.size w w' := by
  have := rhas_any a n x ha ha2 hx hx2 w; rwa [hv] at this
theorem rhas_no (a n x : Int) (hv : has a n x = false) (ha : 0 ≤ a) (ha2 : a < 4294967296) (hx : 0 ≤ x) (hx2 : x < 4294967296) (w : World) :
    Calls Try.prog 38 #[.agg #[.int .u32 a, .int .i64 n], .int .u32 x] w fun e w' => e = .returned (.bool false) ∧ Below w.heap.size w w' := by
  have := rhas_any a n x ha ha2 hx hx2 w; rwa [hv] at this

theorem ret_i64 {a b : Int} (h : a = b) : Ending.returned (.int .i64 a) = .returned (.int .i64 b) := by rw [h]
theorem bel2 (w : World) (o1 o2 : Obj) : Below w.heap.size w ((w.alloc o1).alloc o2) := ((Below.refl _ _).alloc (Nat.le_refl _) _).alloc (by simp) _
set_option maxHeartbeats 1000000 in
theorem rorder_any (a n b m : Int) (ha : 0 ≤ a) (ha2 : a < 4294967296) (hb : 0 ≤ b) (hb2 : b < 4294967296) (w : World) :
    Calls Try.prog 33 #[.agg #[.int .u32 a, .int .i64 n], .agg #[.int .u32 b, .int .i64 m]] w fun e w' => e = .returned (.int .i64 (ord a n b m)) ∧ Below w.heap.size w w' := by
  go_enter Try.func33, Try.ntmps33
  go_wp2_with fail
  all_goals
    go_ret
    exact ⟨ret_i64 (by try simp only [bne_iff_ne, ne_eq, beq_iff_eq, bne_eq_false_iff_eq, beq_eq_false_iff_ne] at *
                       unfold ord; repeat' split
                       all_goals omega), bel2 _ _ _⟩
end Go.Proofs.Ytibmhdfodmkahaa.Ask
