/- The document's Has, and Covers, Order and the document's: what each answers, at every prefix and address. -/
import Derived.Test.YtjfiahendnlcjaaAsk2
namespace Go.Proofs.Ytjfiahendnlcjaa.Ask
open Go.ChangeShapes Go.WideShapes Go.ChangeAt Go.RowKit Go.Proofs.Ytjfiahendnlcjaa.PM
set_option linter.unusedVariables false

theorem rvalid_yes (a n : Int) (hv : vld a n = true) (ha : 0 ≤ a) (ha2 : a < 4294967296) (w : World) :
    Calls Try.prog 25 #[.agg #[.int .u32 a, .int .i64 n]] w fun e w' => e = .returned (.bool true) ∧ Below w.heap.size w w' := by
  have := rvalid_any a n ha ha2 w; rwa [hv] at this
theorem rvalid_no (a n : Int) (hv : vld a n = false) (ha : 0 ≤ a) (ha2 : a < 4294967296) (w : World) :
    Calls Try.prog 25 #[.agg #[.int .u32 a, .int .i64 n]] w fun e w' => e = .returned (.bool false) ∧ Below w.heap.size w w' := by
  have := rvalid_any a n ha ha2 w; rwa [hv] at this

theorem wrap_u64 (x : Int) (h0 : 0 ≤ x) (h1 : x < 18446744073709551616) : IntKind.u64.wrap x = x := by
  simp only [IntKind.wrap, IntKind.bits, IntKind.signed]; simp; omega
theorem wrap_u32 (x : Int) (h0 : 0 ≤ x) (h1 : x < 4294967296) : IntKind.u32.wrap x = x := by
  simp only [IntKind.wrap, IntKind.bits, IntKind.signed]; simp; omega

theorem rhas_low (a n x : Int) (h : ¬ a ≤ x) : false = has a n x := by
  symm; rw [← Bool.not_eq_true, has_iff]; omega
theorem rhas_in (a n x : Int) (hv : vld a n = true) (h : a ≤ x) : decide (x - a < psz n) = has a n x := by
  rw [Bool.eq_iff_iff, has_iff, decide_eq_true_iff]
  have := (vld_iff a n).1 hv
  constructor
  · intro k; exact ⟨this, h, by omega⟩
  · intro k; omega

/-- two prefixes boxed, one behind the other -/
theorem two_cell (w : World) (a n b m : Int) (T : TypeId) :
    ((w.alloc (.cells #[.int .u32 a, .int .i64 n] T)).alloc (.cells #[.int .u32 b, .int .i64 m] T)).cell? ⟨w.heap.size, 0, none⟩ = some (.int .u32 a) ∧
    ((w.alloc (.cells #[.int .u32 a, .int .i64 n] T)).alloc (.cells #[.int .u32 b, .int .i64 m] T)).cell? ⟨w.heap.size, 1, none⟩ = some (.int .i64 n) ∧
    ((w.alloc (.cells #[.int .u32 a, .int .i64 n] T)).alloc (.cells #[.int .u32 b, .int .i64 m] T)).cell? ⟨w.heap.size + 1, 0, none⟩ = some (.int .u32 b) ∧
    ((w.alloc (.cells #[.int .u32 a, .int .i64 n] T)).alloc (.cells #[.int .u32 b, .int .i64 m] T)).cell? ⟨w.heap.size + 1, 1, none⟩ = some (.int .i64 m) := by
  refine ⟨?_, ?_, ?_, ?_⟩ <;> simp
theorem bel_two (w : World) (o1 o2 : Obj) (d : Nat) (os : Array Obj) : Below w.heap.size w (Sort.grow (redrawn ((w.alloc o1).alloc o2) d) os) :=
  (((Below.refl _ _).alloc (Nat.le_refl _) _).alloc (by simp) _).trans ((below_regrown _ d os).mono (by simp; omega))

theorem ret_i64 {a b : Int} (h : a = b) : Ending.returned (.int .i64 a) = .returned (.int .i64 b) := by rw [h]
theorem bel2 (w : World) (o1 o2 : Obj) : Below w.heap.size w ((w.alloc o1).alloc o2) := ((Below.refl _ _).alloc (Nat.le_refl _) _).alloc (by simp) _
set_option maxHeartbeats 1000000 in
theorem order_any (a n b m : Int) (ha : 0 ≤ a) (ha2 : a < 4294967296) (hb : 0 ≤ b) (hb2 : b < 4294967296) (w : World) :
    Calls Try.prog 29 #[.agg #[.int .u32 a, .int .i64 n], .agg #[.int .u32 b, .int .i64 m]] w fun e w' => e = .returned (.int .i64 (ord a n b m)) ∧ Below w.heap.size w w' := by
  go_enter Try.func29, Try.ntmps29
  go_wp2_with fail
  all_goals
    go_ret
    exact ⟨ret_i64 (by unfold ord; repeat' split
                       all_goals omega), bel2 _ _ _⟩

end Go.Proofs.Ytjfiahendnlcjaa.Ask
