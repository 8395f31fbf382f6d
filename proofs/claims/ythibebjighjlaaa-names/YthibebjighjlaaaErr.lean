/- The word of each error number: what (api.Errno).Error answers at every number. -/
import Derived.Test.YthibebjighjlaaaRows
import Derived.WalkKit
import Derived.ProofKit
import Derived.OpenShut
import Derived.WalkLawsBesides
namespace Go.Proofs.Ythibebjighjlaaa.Err
open Go.ChangeShapes Go.WideShapes Go.ChangeAt Go.RowKit
set_option linter.unusedVariables false

def word (n : Nat) : ByteArray :=
  match n with
  | 0 => ⟨#[111, 107]⟩
  | 1 => ⟨#[116, 101, 120, 116]⟩
  | 2 => ⟨#[114, 97, 110, 103, 101]⟩
  | 3 => ⟨#[98, 105, 116, 115]⟩
  | 4 => ⟨#[102, 111, 114, 109]⟩
  | 5 => ⟨#[115, 117, 109]⟩
  | 6 => ⟨#[108, 111, 110, 103]⟩
  | 7 => ⟨#[110, 97, 109, 101]⟩
  | 8 => ⟨#[116, 119, 105, 99, 101]⟩
  | 9 => ⟨#[110, 111, 110, 101]⟩
  | 10 => ⟨#[115, 116, 97, 116, 101]⟩
  | 11 => ⟨#[108, 111, 111, 112]⟩
  | 12 => ⟨#[102, 117, 108, 108]⟩
  | 13 => ⟨#[107, 105, 110, 100]⟩
  | _ => ⟨#[63]⟩

set_option maxHeartbeats 1600000 in
theorem err_any (n : Nat) (h : n < 14) (w : World) :
    Calls Try.prog 6 #[.int .i64 (n : Int)] w fun e w' => e = .returned (.string (word n)) ∧ w' = w := by
  have hn : n = 0 ∨ n = 1 ∨ n = 2 ∨ n = 3 ∨ n = 4 ∨ n = 5 ∨ n = 6 ∨ n = 7 ∨ n = 8 ∨ n = 9 ∨ n = 10 ∨ n = 11 ∨ n = 12 ∨ n = 13 := by omega
  rcases hn with rfl | rfl | rfl | rfl | rfl | rfl | rfl | rfl | rfl | rfl | rfl | rfl | rfl | rfl
  all_goals
    go_enter Try.func6, Try.ntmps6
    go_wp2
    go_ret
    exact ⟨rfl, rfl⟩

theorem err_99 (w : World) :
    Calls Try.prog 6 #[.int .i64 99] w fun e w' => e = .returned (.string ⟨#[63]⟩) ∧ w' = w := by
  go_enter Try.func6, Try.ntmps6
  go_wp2
  go_ret
  exact ⟨rfl, rfl⟩
end Go.Proofs.Ythibebjighjlaaa.Err
