/- Has, Covers, Order and the document's: what each answers, at every prefix and address. -/
import Derived.Test.YtjfiahendnlcjaaAsk1
import Derived.Lib.QuietBelow
namespace Go.Proofs.Ytjfiahendnlcjaa.Ask
open Go.ChangeShapes Go.WideShapes Go.ChangeAt Go.RowKit Go.Proofs.Ytjfiahendnlcjaa.PM
set_option linter.unusedVariables false

theorem valid_yes (a n : Int) (hv : vld a n = true) (ha : 0 ≤ a) (ha2 : a < 4294967296) (w : World) :
    Calls Try.prog 30 #[.agg #[.int .u32 a, .int .i64 n]] w fun e w' => e = .returned (.bool true) ∧ Below w.heap.size w w' := by
  have := valid_any a n ha ha2 w; rwa [hv] at this
theorem valid_no (a n : Int) (hv : vld a n = false) (ha : 0 ≤ a) (ha2 : a < 4294967296) (w : World) :
    Calls Try.prog 30 #[.agg #[.int .u32 a, .int .i64 n]] w fun e w' => e = .returned (.bool false) ∧ Below w.heap.size w w' := by
  have := valid_any a n ha ha2 w; rwa [hv] at this
theorem mask_bel (n : Int) (h0 : 0 ≤ n) (h1 : n ≤ 32) (w : World) :
    Calls Try.prog 36 #[.int .i64 n] w fun e w' => e = .returned (.int .u32 (msk n)) ∧ Below w.heap.size w w' :=
  (mask_any n h0 h1 w).mono fun e w' ⟨he, hw⟩ => ⟨he, by rw [hw]; exact Below.refl _ _⟩
theorem size_bel (n : Int) (h0 : 0 ≤ n) (h1 : n ≤ 32) (w : World) :
    Calls Try.prog 33 #[.int .i64 n] w fun e w' => e = .returned (.int .u64 (psz n)) ∧ Below w.heap.size w w' :=
  (size_any n h0 h1 w).mono fun e w' ⟨he, hw⟩ => ⟨he, by rw [hw]; exact Below.refl _ _⟩

/-- the world with a prefix boxed -/
theorem box_cell0 (w : World) (a n : Int) (T : TypeId) (d : Nat) (os : Array Obj) : (Sort.grow (redrawn (w.alloc (.cells #[.int .u32 a, .int .i64 n] T)) d) os).cell? ⟨w.heap.size, 0, none⟩ = some (.int .u32 a) := cell_regrown (by simp) d os
theorem box_cell1 (w : World) (a n : Int) (T : TypeId) (d : Nat) (os : Array Obj) : (Sort.grow (redrawn (w.alloc (.cells #[.int .u32 a, .int .i64 n] T)) d) os).cell? ⟨w.heap.size, 1, none⟩ = some (.int .i64 n) := cell_regrown (by simp) d os
theorem bel_box (w : World) (o : Obj) (d : Nat) (os : Array Obj) : Below w.heap.size w (Sort.grow (redrawn (w.alloc o) d) os) :=
  ((Below.refl _ _).alloc (Nat.le_refl _) _).trans ((below_regrown _ d os).mono (by simp))

end Go.Proofs.Ytjfiahendnlcjaa.Ask
