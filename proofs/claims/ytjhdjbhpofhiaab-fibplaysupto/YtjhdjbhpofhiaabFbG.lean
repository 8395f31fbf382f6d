/- spare: a number for a new node. -/
import Derived.Test.YtjhdjbhpofhiaabFbF
namespace Go.Proofs.Ytjhdjbhpofhiaab.Fb
open Go.ChangeShapes Go.WideShapes Go.ChangeAt Go.RowKit Go.Joins Go.Proofs.Ytjhdjbhpofhiaab.PM Go.Proofs.Ytjhdjbhpofhiaab.Ask
set_option linter.unusedVariables false

set_option maxHeartbeats 1000000 in
theorem spare_new (bt : Nat) (m : Int) (m0 : 0 ≤ m) (m1 : m + 1 < 4294967296) (fa : Option Addr) (fc : Nat) (w : World) (c1 : w.cell? ⟨bt, 1, none⟩ = some (.int .u32 m)) (f1 : w.frozen? ⟨bt, 1, none⟩ = false) (c2 : w.cell? ⟨bt, 2, none⟩ = some (.slice fa 0 fc)) :
    Calls Try.prog 78 #[.pointer (some ⟨bt, 0, none⟩)] w fun e w' => e = .returned (.int .u32 (m + 1)) ∧ w' = w.setCell ⟨bt, 1, none⟩ (.int .u32 (m + 1)) := by
  go_enter Try.func78, Try.ntmps78
  go_wp2_with fail
  go_ret
  exact ⟨rfl, rfl⟩
set_option maxHeartbeats 1000000 in
theorem spare_old (bt g k cap : Nat) (n : Int) (hk : k + 1 ≤ cap) (hc : cap ≤ 9223372036854775807) (w : World) (c2 : w.cell? ⟨bt, 2, none⟩ = some (.slice (some ⟨g, 0, none⟩) (k + 1) cap)) (f2 : w.frozen? ⟨bt, 2, none⟩ = false) (cg : w.cell? ⟨g, k, none⟩ = some (.int .u32 n)) :
    Calls Try.prog 78 #[.pointer (some ⟨bt, 0, none⟩)] w fun e w' => e = .returned (.int .u32 n) ∧ w' = w.setCell ⟨bt, 2, none⟩ (.slice (some ⟨g, 0, none⟩) k cap) := by
  have kk0 : (0 : Int) ≤ k := by omega
  have kk1 : (k : Int) < ((k + 1 : Nat) : Int) := by omega
  have kk2 : (k : Int) ≤ (cap : Int) := by omega
  go_enter Try.func78, Try.ntmps78
  go_wp2_with fail
  go_ret
  exact ⟨rfl, rfl⟩
end Go.Proofs.Ytjhdjbhpofhiaab.Fb
