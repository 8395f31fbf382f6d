/- The document's reading of numbers: what pfxDigits and pfxNumber answer, at every text and place. -/
import Derived.Test.YthibebjighjlaaaDoorRead3
namespace Go.Proofs.YthibebjighjlaaaDoor.Rd
open Go.ChangeShapes Go.WideShapes Go.ChangeAt Go.RowKit Go.Proofs.YthibebjighjlaaaDoor.TM
set_option linter.unusedVariables false

theorem drop_at (s : ByteArray) (i k : Nat) (h : i + k < s.size) : (s.data.toList.drop i)[k]? = some s[i + k] := by
  rw [List.getElem?_drop]; exact byte_at s (i + k) h
theorem stop_drop (s : ByteArray) (i k : Nat) (h : i + k < s.size) (hk : k = nd (s.data.toList.drop i)) : ¬ (48 ≤ (s[i + k].toNat : Int) ∧ (s[i + k].toNat : Int) ≤ 57) := by
  intro hd
  have h2 := nd_stop (s.data.toList.drop i) s[i + k] (by rw [← hk]; exact drop_at s i k h)
  rw [(isD_iff _).2 hd] at h2
  cases h2

end Go.Proofs.YthibebjighjlaaaDoor.Rd
