/- The document's reading of four numbers with dots: what pfxNumber and pfxQuad answer, at every text. -/
import Derived.Test.YthibebjighjlaaaDoorRead4
namespace Go.Proofs.YthibebjighjlaaaDoor.Rd
open Go.ChangeShapes Go.WideShapes Go.ChangeAt Go.RowKit Go.Proofs.YthibebjighjlaaaDoor.TM
set_option linter.unusedVariables false
/-- the document's number of at most so many digits at the beginning of a text, and how many -/
def rnM (r : List UInt8) (most : Nat) : Option (Int × Nat) :=
  if okN r (min (nd r) 4) = true ∧ min (nd r) 4 ≤ most then some (val (r.take (min (nd r) 4)), min (nd r) 4) else none
/-- what pfxNumber answers -/
def rnV (r : List UInt8) (i most : Nat) : Value := match rnM r most with
  | some (v, c) => .tuple #[.int .i64 v, .int .i64 ((i : Int) + (c : Int))]
  | none => .tuple #[.int .i64 0, .int .i64 (-1)]

theorem rnM_some {r : List UInt8} {most : Nat} {v : Int} {c : Nat} (hm : most ≤ 3) (h : rnM r most = some (v, c)) : (0 ≤ v ∧ v ≤ 999) ∧ c ≤ r.length ∧ 1 ≤ c := by
  unfold rnM at h
  split at h
  · rename_i hk
    simp at h
    obtain ⟨rfl, rfl⟩ := h
    have := nd_le r
    refine ⟨val_take3 _ _ (by omega) (by omega), by omega, ?_⟩
    by_cases e : min (nd r) 4 = 0
    · rw [e, okN_zero] at hk; exact absurd hk.1 (by simp)
    · omega
  · cases h
end Go.Proofs.YthibebjighjlaaaDoor.Rd
