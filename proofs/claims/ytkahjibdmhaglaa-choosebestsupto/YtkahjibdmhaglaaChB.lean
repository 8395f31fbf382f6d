/- What strikes offers out: function literals; MinFunc, IndexFunc, DeleteFunc. -/
import Derived.Test.YtkahjibdmhaglaaChA
import Derived.Lib.SliceRun
namespace Go.Proofs.Ytkahjibdmhaglaa.Ch
open Go.ChangeShapes Go.WideShapes Go.ChangeAt Go.RowKit Go.Joins Go.Deep Go.Proofs.Ytkahjibdmhaglaa.Ge
set_option linter.unusedVariables false
set_option linter.unusedSimpArgs false

/-- places -/
def EN : El Nat := ⟨3, 24, 1, 8, .int .i64 0, fun x => [.int .i64 (x : Int)], by decide, by decide, fun _ => rfl, fun x u hu => by simp at hu; subst hu; rfl, Try.underlying24, by kernel_rfl, rfl⟩
/-- a step's function -/
def fvK : Nat → Value
  | 0 => .func (.func 38) #[] #[]
  | 1 => .func (.func 40) #[] #[]
  | 2 => .func (.func 41) #[] #[]
  | 3 => .func (.func 43) #[] #[]
  | 4 => .func (.func 45) #[] #[]
  | 5 => .func (.func 46) #[] #[]
  | 6 => .func (.func 47) #[] #[]
  | _ => .func (.func 48) #[] #[]
theorem drewN_Ofs {w : World} {b k : Nat} {x : Of} {s : Oa} (h : OfAt w b k x s) (q : Nat) : OfAt (w.drewN q) b k x s := h
set_option maxRecDepth 100000 in
set_option maxHeartbeats 16000000 in
theorem c80_any (k : Nat) (hk : k < 8) (b3 b4 lb lo n lc i j : Nat) (x y : Of) (s t : Oa) (w : World) (c3 : w.cell? ⟨b3, 0, none⟩ = some (fvK k)) (c4 : w.cell? ⟨b4, 0, none⟩ = some (.slice (some ⟨lb, lo, none⟩) n lc)) (hi : i < n) (hj : j < n) (h1 : OfAt w lb (lo + i * 13) x s) (h2 : OfAt w lb (lo + j * 13) y t) : Calls Try.prog 80 #[.int .i64 (i : Int), .int .i64 (j : Int), .pointer (some ⟨b3, 0, none⟩), .pointer (some ⟨b4, 0, none⟩)] w fun e w' => e = .returned (.int .i64 (stp k x y)) ∧ ∃ q, w' = w.drewN q := by
  have H1 : Hid (∀ q, OfAt (w.drewN q) lb (lo + i * 13) x s) := fun _ => h1
  have H2 : Hid (∀ q, OfAt (w.drewN q) lb (lo + j * 13) y t) := fun _ => h2
  have hii : (i : Int) < (n : Int) := by omega
  have hjj : (j : Int) < (n : Int) := by omega
  have i0 : (0 : Int) ≤ (i : Int) := by omega
  have j0 : (0 : Int) ≤ (j : Int) := by omega
  clear h1 h2
  match k, hk with
  | 0, _ =>
    have d3 : w.cell? ⟨b3, 0, none⟩ = some (.func (.func 38) #[] #[]) := c3
    have HS : Hid (∀ q, Calls Try.prog 38 #[.pointer (some ⟨lb, lo + i * 13, none⟩), .pointer (some ⟨lb, lo + j * 13, none⟩)] (w.drewN q) fun e w' => e = .returned (.int .i64 (stp 0 x y)) ∧ ∃ m, w' = (w.drewN q).drewN m) := fun q => st0_any lb (lo + i * 13) (lo + j * 13) x y s t _ (H1.out q) (H2.out q)
    obtain ⟨z, hz⟩ : ∃ z, stp 0 x y = z := ⟨_, rfl⟩
    rw [hz] at HS ⊢
    clear c3 hz H1 H2
    go_enter Try.func80, Try.ntmps80
    go_wp2_with fail
    go_quiet ((go_at_call 38; exact Calls.quiet_of (HS.out _)))
    go_wp2_with fail
    go_ret
    exact ⟨by try rfl, _, rfl⟩
  | 1, _ =>
    have d3 : w.cell? ⟨b3, 0, none⟩ = some (.func (.func 40) #[] #[]) := c3
    have HS : Hid (∀ q, Calls Try.prog 40 #[.pointer (some ⟨lb, lo + i * 13, none⟩), .pointer (some ⟨lb, lo + j * 13, none⟩)] (w.drewN q) fun e w' => e = .returned (.int .i64 (stp 1 x y)) ∧ ∃ m, w' = (w.drewN q).drewN m) := fun q => st1_any lb (lo + i * 13) (lo + j * 13) x y s t _ (H1.out q) (H2.out q)
    obtain ⟨z, hz⟩ : ∃ z, stp 1 x y = z := ⟨_, rfl⟩
    rw [hz] at HS ⊢
    clear c3 hz H1 H2
    go_enter Try.func80, Try.ntmps80
    go_wp2_with fail
    go_quiet ((go_at_call 40; exact Calls.quiet_of (HS.out _)))
    go_wp2_with fail
    go_ret
    exact ⟨by try rfl, _, rfl⟩
  | 2, _ =>
    have d3 : w.cell? ⟨b3, 0, none⟩ = some (.func (.func 41) #[] #[]) := c3
    have HS : Hid (∀ q, Calls Try.prog 41 #[.pointer (some ⟨lb, lo + i * 13, none⟩), .pointer (some ⟨lb, lo + j * 13, none⟩)] (w.drewN q) fun e w' => e = .returned (.int .i64 (stp 2 x y)) ∧ ∃ m, w' = (w.drewN q).drewN m) := fun q => st2_any lb (lo + i * 13) (lo + j * 13) x y s t _ (H1.out q) (H2.out q)
    obtain ⟨z, hz⟩ : ∃ z, stp 2 x y = z := ⟨_, rfl⟩
    rw [hz] at HS ⊢
    clear c3 hz H1 H2
    go_enter Try.func80, Try.ntmps80
    go_wp2_with fail
    go_quiet ((go_at_call 41; exact Calls.quiet_of (HS.out _)))
    go_wp2_with fail
    go_ret
    exact ⟨by try rfl, _, rfl⟩
  | 3, _ =>
    have d3 : w.cell? ⟨b3, 0, none⟩ = some (.func (.func 43) #[] #[]) := c3
    have HS : Hid (∀ q, Calls Try.prog 43 #[.pointer (some ⟨lb, lo + i * 13, none⟩), .pointer (some ⟨lb, lo + j * 13, none⟩)] (w.drewN q) fun e w' => e = .returned (.int .i64 (stp 3 x y)) ∧ ∃ m, w' = (w.drewN q).drewN m) := fun q => st3_any lb (lo + i * 13) (lo + j * 13) x y s t _ (H1.out q) (H2.out q)
    obtain ⟨z, hz⟩ : ∃ z, stp 3 x y = z := ⟨_, rfl⟩
    rw [hz] at HS ⊢
    clear c3 hz H1 H2
    go_enter Try.func80, Try.ntmps80
    go_wp2_with fail
    go_quiet ((go_at_call 43; exact Calls.quiet_of (HS.out _)))
    go_wp2_with fail
    go_ret
    exact ⟨by try rfl, _, rfl⟩
  | 4, _ =>
    have d3 : w.cell? ⟨b3, 0, none⟩ = some (.func (.func 45) #[] #[]) := c3
    have HS : Hid (∀ q, Calls Try.prog 45 #[.pointer (some ⟨lb, lo + i * 13, none⟩), .pointer (some ⟨lb, lo + j * 13, none⟩)] (w.drewN q) fun e w' => e = .returned (.int .i64 (stp 4 x y)) ∧ ∃ m, w' = (w.drewN q).drewN m) := fun q => st4_any lb (lo + i * 13) (lo + j * 13) x y s t _ (H1.out q) (H2.out q)
    obtain ⟨z, hz⟩ : ∃ z, stp 4 x y = z := ⟨_, rfl⟩
    rw [hz] at HS ⊢
    clear c3 hz H1 H2
    go_enter Try.func80, Try.ntmps80
    go_wp2_with fail
    go_quiet ((go_at_call 45; exact Calls.quiet_of (HS.out _)))
    go_wp2_with fail
    go_ret
    exact ⟨by try rfl, _, rfl⟩
  | 5, _ =>
    have d3 : w.cell? ⟨b3, 0, none⟩ = some (.func (.func 46) #[] #[]) := c3
    have HS : Hid (∀ q, Calls Try.prog 46 #[.pointer (some ⟨lb, lo + i * 13, none⟩), .pointer (some ⟨lb, lo + j * 13, none⟩)] (w.drewN q) fun e w' => e = .returned (.int .i64 (stp 5 x y)) ∧ ∃ m, w' = (w.drewN q).drewN m) := fun q => st5_any lb (lo + i * 13) (lo + j * 13) x y s t _ (H1.out q) (H2.out q)
    obtain ⟨z, hz⟩ : ∃ z, stp 5 x y = z := ⟨_, rfl⟩
    rw [hz] at HS ⊢
    clear c3 hz H1 H2
    go_enter Try.func80, Try.ntmps80
    go_wp2_with fail
    go_quiet ((go_at_call 46; exact Calls.quiet_of (HS.out _)))
    go_wp2_with fail
    go_ret
    exact ⟨by try rfl, _, rfl⟩
  | 6, _ =>
    have d3 : w.cell? ⟨b3, 0, none⟩ = some (.func (.func 47) #[] #[]) := c3
    have HS : Hid (∀ q, Calls Try.prog 47 #[.pointer (some ⟨lb, lo + i * 13, none⟩), .pointer (some ⟨lb, lo + j * 13, none⟩)] (w.drewN q) fun e w' => e = .returned (.int .i64 (stp 6 x y)) ∧ ∃ m, w' = (w.drewN q).drewN m) := fun q => st6_any lb (lo + i * 13) (lo + j * 13) x y s t _ (H1.out q) (H2.out q)
    obtain ⟨z, hz⟩ : ∃ z, stp 6 x y = z := ⟨_, rfl⟩
    rw [hz] at HS ⊢
    clear c3 hz H1 H2
    go_enter Try.func80, Try.ntmps80
    go_wp2_with fail
    go_quiet ((go_at_call 47; exact Calls.quiet_of (HS.out _)))
    go_wp2_with fail
    go_ret
    exact ⟨by try rfl, _, rfl⟩
  | 7, _ =>
    have d3 : w.cell? ⟨b3, 0, none⟩ = some (.func (.func 48) #[] #[]) := c3
    have HS : Hid (∀ q, Calls Try.prog 48 #[.pointer (some ⟨lb, lo + i * 13, none⟩), .pointer (some ⟨lb, lo + j * 13, none⟩)] (w.drewN q) fun e w' => e = .returned (.int .i64 (stp 7 x y)) ∧ ∃ m, w' = (w.drewN q).drewN m) := fun q => st7_any lb (lo + i * 13) (lo + j * 13) x y s t _ (H1.out q) (H2.out q)
    obtain ⟨z, hz⟩ : ∃ z, stp 7 x y = z := ⟨_, rfl⟩
    rw [hz] at HS ⊢
    clear c3 hz H1 H2
    go_enter Try.func80, Try.ntmps80
    go_wp2_with fail
    go_quiet ((go_at_call 48; exact Calls.quiet_of (HS.out _)))
    go_wp2_with fail
    go_ret
    exact ⟨by try rfl, _, rfl⟩
set_option maxRecDepth 100000 in
set_option maxHeartbeats 16000000 in
theorem c81_any (k : Nat) (hk : k < 8) (b3 b4 b7 lb lo n lc i j : Nat) (x y : Of) (s t : Oa) (w : World) (c3 : w.cell? ⟨b3, 0, none⟩ = some (fvK k)) (c4 : w.cell? ⟨b4, 0, none⟩ = some (.slice (some ⟨lb, lo, none⟩) n lc)) (c7 : w.cell? ⟨b7, 0, none⟩ = some (.int .i64 (i : Int))) (hi : i < n) (hj : j < n) (h1 : OfAt w lb (lo + i * 13) x s) (h2 : OfAt w lb (lo + j * 13) y t) : Calls Try.prog 81 #[.int .i64 (j : Int), .pointer (some ⟨b3, 0, none⟩), .pointer (some ⟨b4, 0, none⟩), .pointer (some ⟨b7, 0, none⟩)] w fun e w' => e = .returned (.bool (decide (stp k x y < 0))) ∧ ∃ q, w' = w.drewN q := by
  have H1 : Hid (∀ q, OfAt (w.drewN q) lb (lo + i * 13) x s) := fun _ => h1
  have H2 : Hid (∀ q, OfAt (w.drewN q) lb (lo + j * 13) y t) := fun _ => h2
  have hii : (i : Int) < (n : Int) := by omega
  have hjj : (j : Int) < (n : Int) := by omega
  have i0 : (0 : Int) ≤ (i : Int) := by omega
  have j0 : (0 : Int) ≤ (j : Int) := by omega
  clear h1 h2
  match k, hk with
  | 0, _ =>
    have d3 : w.cell? ⟨b3, 0, none⟩ = some (.func (.func 38) #[] #[]) := c3
    have HS : Hid (∀ q, Calls Try.prog 38 #[.pointer (some ⟨lb, lo + i * 13, none⟩), .pointer (some ⟨lb, lo + j * 13, none⟩)] (w.drewN q) fun e w' => e = .returned (.int .i64 (stp 0 x y)) ∧ ∃ m, w' = (w.drewN q).drewN m) := fun q => st0_any lb (lo + i * 13) (lo + j * 13) x y s t _ (H1.out q) (H2.out q)
    obtain ⟨z, hz⟩ : ∃ z, stp 0 x y = z := ⟨_, rfl⟩
    rw [hz] at HS ⊢
    clear c3 hz H1 H2
    go_enter Try.func81, Try.ntmps81
    go_wp2_with fail
    go_quiet ((go_at_call 38; exact Calls.quiet_of (HS.out _)))
    go_wp2_with fail
    go_ret
    exact ⟨by try rfl, _, rfl⟩
  | 1, _ =>
    have d3 : w.cell? ⟨b3, 0, none⟩ = some (.func (.func 40) #[] #[]) := c3
    have HS : Hid (∀ q, Calls Try.prog 40 #[.pointer (some ⟨lb, lo + i * 13, none⟩), .pointer (some ⟨lb, lo + j * 13, none⟩)] (w.drewN q) fun e w' => e = .returned (.int .i64 (stp 1 x y)) ∧ ∃ m, w' = (w.drewN q).drewN m) := fun q => st1_any lb (lo + i * 13) (lo + j * 13) x y s t _ (H1.out q) (H2.out q)
    obtain ⟨z, hz⟩ : ∃ z, stp 1 x y = z := ⟨_, rfl⟩
    rw [hz] at HS ⊢
    clear c3 hz H1 H2
    go_enter Try.func81, Try.ntmps81
    go_wp2_with fail
    go_quiet ((go_at_call 40; exact Calls.quiet_of (HS.out _)))
    go_wp2_with fail
    go_ret
    exact ⟨by try rfl, _, rfl⟩
  | 2, _ =>
    have d3 : w.cell? ⟨b3, 0, none⟩ = some (.func (.func 41) #[] #[]) := c3
    have HS : Hid (∀ q, Calls Try.prog 41 #[.pointer (some ⟨lb, lo + i * 13, none⟩), .pointer (some ⟨lb, lo + j * 13, none⟩)] (w.drewN q) fun e w' => e = .returned (.int .i64 (stp 2 x y)) ∧ ∃ m, w' = (w.drewN q).drewN m) := fun q => st2_any lb (lo + i * 13) (lo + j * 13) x y s t _ (H1.out q) (H2.out q)
    obtain ⟨z, hz⟩ : ∃ z, stp 2 x y = z := ⟨_, rfl⟩
    rw [hz] at HS ⊢
    clear c3 hz H1 H2
    go_enter Try.func81, Try.ntmps81
    go_wp2_with fail
    go_quiet ((go_at_call 41; exact Calls.quiet_of (HS.out _)))
    go_wp2_with fail
    go_ret
    exact ⟨by try rfl, _, rfl⟩
  | 3, _ =>
    have d3 : w.cell? ⟨b3, 0, none⟩ = some (.func (.func 43) #[] #[]) := c3
    have HS : Hid (∀ q, Calls Try.prog 43 #[.pointer (some ⟨lb, lo + i * 13, none⟩), .pointer (some ⟨lb, lo + j * 13, none⟩)] (w.drewN q) fun e w' => e = .returned (.int .i64 (stp 3 x y)) ∧ ∃ m, w' = (w.drewN q).drewN m) := fun q => st3_any lb (lo + i * 13) (lo + j * 13) x y s t _ (H1.out q) (H2.out q)
    obtain ⟨z, hz⟩ : ∃ z, stp 3 x y = z := ⟨_, rfl⟩
    rw [hz] at HS ⊢
    clear c3 hz H1 H2
    go_enter Try.func81, Try.ntmps81
    go_wp2_with fail
    go_quiet ((go_at_call 43; exact Calls.quiet_of (HS.out _)))
    go_wp2_with fail
    go_ret
    exact ⟨by try rfl, _, rfl⟩
  | 4, _ =>
    have d3 : w.cell? ⟨b3, 0, none⟩ = some (.func (.func 45) #[] #[]) := c3
    have HS : Hid (∀ q, Calls Try.prog 45 #[.pointer (some ⟨lb, lo + i * 13, none⟩), .pointer (some ⟨lb, lo + j * 13, none⟩)] (w.drewN q) fun e w' => e = .returned (.int .i64 (stp 4 x y)) ∧ ∃ m, w' = (w.drewN q).drewN m) := fun q => st4_any lb (lo + i * 13) (lo + j * 13) x y s t _ (H1.out q) (H2.out q)
    obtain ⟨z, hz⟩ : ∃ z, stp 4 x y = z := ⟨_, rfl⟩
    rw [hz] at HS ⊢
    clear c3 hz H1 H2
    go_enter Try.func81, Try.ntmps81
    go_wp2_with fail
    go_quiet ((go_at_call 45; exact Calls.quiet_of (HS.out _)))
    go_wp2_with fail
    go_ret
    exact ⟨by try rfl, _, rfl⟩
  | 5, _ =>
    have d3 : w.cell? ⟨b3, 0, none⟩ = some (.func (.func 46) #[] #[]) := c3
    have HS : Hid (∀ q, Calls Try.prog 46 #[.pointer (some ⟨lb, lo + i * 13, none⟩), .pointer (some ⟨lb, lo + j * 13, none⟩)] (w.drewN q) fun e w' => e = .returned (.int .i64 (stp 5 x y)) ∧ ∃ m, w' = (w.drewN q).drewN m) := fun q => st5_any lb (lo + i * 13) (lo + j * 13) x y s t _ (H1.out q) (H2.out q)
    obtain ⟨z, hz⟩ : ∃ z, stp 5 x y = z := ⟨_, rfl⟩
    rw [hz] at HS ⊢
    clear c3 hz H1 H2
    go_enter Try.func81, Try.ntmps81
    go_wp2_with fail
    go_quiet ((go_at_call 46; exact Calls.quiet_of (HS.out _)))
    go_wp2_with fail
    go_ret
    exact ⟨by try rfl, _, rfl⟩
  | 6, _ =>
    have d3 : w.cell? ⟨b3, 0, none⟩ = some (.func (.func 47) #[] #[]) := c3
    have HS : Hid (∀ q, Calls Try.prog 47 #[.pointer (some ⟨lb, lo + i * 13, none⟩), .pointer (some ⟨lb, lo + j * 13, none⟩)] (w.drewN q) fun e w' => e = .returned (.int .i64 (stp 6 x y)) ∧ ∃ m, w' = (w.drewN q).drewN m) := fun q => st6_any lb (lo + i * 13) (lo + j * 13) x y s t _ (H1.out q) (H2.out q)
    obtain ⟨z, hz⟩ : ∃ z, stp 6 x y = z := ⟨_, rfl⟩
    rw [hz] at HS ⊢
    clear c3 hz H1 H2
    go_enter Try.func81, Try.ntmps81
    go_wp2_with fail
    go_quiet ((go_at_call 47; exact Calls.quiet_of (HS.out _)))
    go_wp2_with fail
    go_ret
    exact ⟨by try rfl, _, rfl⟩
  | 7, _ =>
    have d3 : w.cell? ⟨b3, 0, none⟩ = some (.func (.func 48) #[] #[]) := c3
    have HS : Hid (∀ q, Calls Try.prog 48 #[.pointer (some ⟨lb, lo + i * 13, none⟩), .pointer (some ⟨lb, lo + j * 13, none⟩)] (w.drewN q) fun e w' => e = .returned (.int .i64 (stp 7 x y)) ∧ ∃ m, w' = (w.drewN q).drewN m) := fun q => st7_any lb (lo + i * 13) (lo + j * 13) x y s t _ (H1.out q) (H2.out q)
    obtain ⟨z, hz⟩ : ∃ z, stp 7 x y = z := ⟨_, rfl⟩
    rw [hz] at HS ⊢
    clear c3 hz H1 H2
    go_enter Try.func81, Try.ntmps81
    go_wp2_with fail
    go_quiet ((go_at_call 48; exact Calls.quiet_of (HS.out _)))
    go_wp2_with fail
    go_ret
    exact ⟨by try rfl, _, rfl⟩
end Go.Proofs.Ytkahjibdmhaglaa.Ch
