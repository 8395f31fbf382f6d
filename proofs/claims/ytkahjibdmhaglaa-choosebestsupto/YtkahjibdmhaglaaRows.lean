/-
  No cell of these rows narrows 'for every input' (looked for: loops, veiled, ifaces, maps, wideKeys, modest, calm, conditions, laid).
  DERIVED. THE GIVEN ROWS OF THIS SEAT. 3 by the template 'for every input the law returns true; each argument reads behind the call as it read before'; 0 by the template 'total and deterministic' (their statements: YtkahjibdmhaglaaTotals.lean).
  GIVEN WITH THE SEED: the statements are not yours to turn. If you find one false, say at which input.
  Laid BY PROGRAM, IN A SANDBOX (cutbox-rows.mjs): the forced cells as the released guide's own fill.sh prints them over the translation e4ae8f85148bdc6d… (all of the seat's roots in one cut). By AI agents, Wed Nov 11 2026. No macro, syntax, notation, axiom, sorry.
-/
import Derived.Test.YtkahjibdmhaglaaChecked
import GoSem.Claim
import GoSem.ClaimJoined
import GoSem.ClaimMapViews
import Derived.JoinedTies
import Derived.KernelRfl
namespace Go.Proofs.Ytkahjibdmhaglaa
/- THE CELL 'sum', in the pinned program and in every row, IS THE sha256 OF THE DUMP (.gsa) THAT YtkahjibdmhaglaaProg.lean LOADS. Nothing in Lean hashes anything: it is a label: what it is worth is what the hold of that sum in a sandbox is worth. -/
noncomputable def Try.pinned : Pinned := { name := "ytkahjibdmhaglaa", sum := "e4ae8f85148bdc6dbb1876558038ed8cf88cb09500fa0baff7ce74d359c8fe26", checked := Try.checked }
namespace Rows
def none {H : Type} : Left H := { results := [], args := [] }

/-- 'wayfinderlaw.ChooseBests': WHATEVER THE INPUT: true; the input reads as it did. -/
def chooseBestsSpec : ChangeSpec := { name := "chooseBests", fn := fun _ => fun
  | [d] => { results := [.lit (.bool true)], args := [d] }
  | _ => none }
def chooseBestsRow : OpenClaim := { program := "ytkahjibdmhaglaa", sum := "e4ae8f85148bdc6dbb1876558038ed8cf88cb09500fa0baff7ce74d359c8fe26", func := "wayfinder/wayfinderlaw.ChooseBests", spec := "chooseBests", unfollowed := true, recurses := true, apart := false }
def ChooseBestsSaid : Prop := chooseBestsRow.holds Try.pinned (OpenSpec.ofChange chooseBestsSpec)

/-- ITS FALSE NEIGHBOUR: 'it returns false'. Refute it at one input. -/
def chooseBestsWrong : ChangeSpec := { name := "chooseBests", fn := fun _ => fun
  | [d] => { results := [.lit (.bool false)], args := [d] }
  | _ => none }
def ChooseBestsWrongFalsely : Prop := chooseBestsRow.holds Try.pinned (OpenSpec.ofChange chooseBestsWrong)

/-- 'wayfinderlaw.ChooseTurns': WHATEVER THE INPUT: true; the input reads as it did. -/
def chooseTurnsSpec : ChangeSpec := { name := "chooseTurns", fn := fun _ => fun
  | [d1, d2] => { results := [.lit (.bool true)], args := [d1, d2] }
  | _ => none }
def chooseTurnsRow : OpenClaim := { program := "ytkahjibdmhaglaa", sum := "e4ae8f85148bdc6dbb1876558038ed8cf88cb09500fa0baff7ce74d359c8fe26", func := "wayfinder/wayfinderlaw.ChooseTurns", spec := "chooseTurns", unfollowed := true, recurses := true, apart := false }
def ChooseTurnsSaid : Prop := chooseTurnsRow.holds Try.pinned (OpenSpec.ofChange chooseTurnsSpec)

/-- ITS FALSE NEIGHBOUR: 'it returns false'. Refute it at one input. -/
def chooseTurnsWrong : ChangeSpec := { name := "chooseTurns", fn := fun _ => fun
  | [d1, d2] => { results := [.lit (.bool false)], args := [d1, d2] }
  | _ => none }
def ChooseTurnsWrongFalsely : Prop := chooseTurnsRow.holds Try.pinned (OpenSpec.ofChange chooseTurnsWrong)

/-- 'wayfinderlaw.ChooseWorse': WHATEVER THE INPUT: true; the input reads as it did. -/
def chooseWorseSpec : ChangeSpec := { name := "chooseWorse", fn := fun _ => fun
  | [d1, d2, d3, d4] => { results := [.lit (.bool true)], args := [d1, d2, d3, d4] }
  | _ => none }
def chooseWorseRow : OpenClaim := { program := "ytkahjibdmhaglaa", sum := "e4ae8f85148bdc6dbb1876558038ed8cf88cb09500fa0baff7ce74d359c8fe26", func := "wayfinder/wayfinderlaw.ChooseWorse", spec := "chooseWorse", unfollowed := true, recurses := true, apart := false }
def ChooseWorseSaid : Prop := chooseWorseRow.holds Try.pinned (OpenSpec.ofChange chooseWorseSpec)

/-- ITS FALSE NEIGHBOUR: 'it returns false'. Refute it at one input. -/
def chooseWorseWrong : ChangeSpec := { name := "chooseWorse", fn := fun _ => fun
  | [d1, d2, d3, d4] => { results := [.lit (.bool false)], args := [d1, d2, d3, d4] }
  | _ => none }
def ChooseWorseWrongFalsely : Prop := chooseWorseRow.holds Try.pinned (OpenSpec.ofChange chooseWorseWrong)

/- THE SECOND FORM. 'bulk': how many values and letters a reading holds, each counted each time it is reached (what is shared counts as often as it is met; a slice's spare places count too). A statement '..UptoSaid' is the law's where the arguments, and the package variables that the reading takes, are together of bulk at most 1048576: NARROWER than '..Said'. Prove '..Said' where nothing that the law and all that it calls make is longer than what came in: it says more and counts as full. Else prove '..UptoSaid'. A law counts once. -/
mutual
def uptoBulk {H : Type} : DataW H → Nat
  | .lit (.string bytes) => bytes.length + 1
  | .lit _ => 1
  | .nil => 1
  | .ptr d => uptoBulk d + 1
  | .slice elems spare => uptoBulkAll elems + uptoBulkAll spare + 1
  | .agg parts => uptoBulkAll parts + 1
  | .iface _ d => uptoBulk d + 1
  | .map entries => uptoBulkEntries entries + 1
  | .held _ => 1
def uptoBulkAll {H : Type} : List (DataW H) → Nat
  | [] => 0
  | d :: r => uptoBulk d + uptoBulkAll r
def uptoBulkEntries {H : Type} : List (Lit × DataW H) → Nat
  | [] => 0
  | x :: r => uptoBulkEntry x + uptoBulkEntries r
def uptoBulkEntry {H : Type} : Lit × DataW H → Nat
  | (.string bytes, d) => bytes.length + uptoBulk d + 1
  | (_, d) => uptoBulk d + 1
 end
def uptoSmall : (H : Type) → List (DataW H) → Bool := fun _ ds => decide (uptoBulkAll ds ≤ 1048576)
def OpenSpec.upto (s : _root_.Go.ChangeSpec) : _root_.Go.OpenSpec := { _root_.Go.OpenSpec.ofChange s with cond := some uptoSmall }

/-- 'wayfinderlaw.ChooseBests', WHERE WHAT IT READS IS OF BULK AT MOST 1048576: true; the input reads as it did. -/
def chooseBestsUptoRow : OpenClaim := { program := "ytkahjibdmhaglaa", sum := "e4ae8f85148bdc6dbb1876558038ed8cf88cb09500fa0baff7ce74d359c8fe26", func := "wayfinder/wayfinderlaw.ChooseBests", spec := "chooseBests", unfollowed := true, recurses := true, apart := false, narrowed := true }
def ChooseBestsUptoSaid : Prop := chooseBestsUptoRow.holds Try.pinned (OpenSpec.upto chooseBestsSpec)

/-- 'wayfinderlaw.ChooseTurns', WHERE WHAT IT READS IS OF BULK AT MOST 1048576: true; the input reads as it did. -/
def chooseTurnsUptoRow : OpenClaim := { program := "ytkahjibdmhaglaa", sum := "e4ae8f85148bdc6dbb1876558038ed8cf88cb09500fa0baff7ce74d359c8fe26", func := "wayfinder/wayfinderlaw.ChooseTurns", spec := "chooseTurns", unfollowed := true, recurses := true, apart := false, narrowed := true }
def ChooseTurnsUptoSaid : Prop := chooseTurnsUptoRow.holds Try.pinned (OpenSpec.upto chooseTurnsSpec)

/-- 'wayfinderlaw.ChooseWorse', WHERE WHAT IT READS IS OF BULK AT MOST 1048576: true; the input reads as it did. -/
def chooseWorseUptoRow : OpenClaim := { program := "ytkahjibdmhaglaa", sum := "e4ae8f85148bdc6dbb1876558038ed8cf88cb09500fa0baff7ce74d359c8fe26", func := "wayfinder/wayfinderlaw.ChooseWorse", spec := "chooseWorse", unfollowed := true, recurses := true, apart := false, narrowed := true }
def ChooseWorseUptoSaid : Prop := chooseWorseUptoRow.holds Try.pinned (OpenSpec.upto chooseWorseSpec)

end Rows
end Go.Proofs.Ytkahjibdmhaglaa
