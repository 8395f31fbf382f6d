/-
  No cell of these rows narrows 'for every input' (looked for: loops, veiled, ifaces, maps, wideKeys, modest, calm, conditions, laid).
  DERIVED. THE GIVEN ROWS OF THIS SEAT. 5 by the template 'for every input the law returns true; each argument reads behind the call as it read before'; 0 by the template 'total and deterministic' (their statements: YtgdaihliomihcacTotals.lean).
  GIVEN WITH THE SEED: the statements are not yours to turn. If you find one false, say at which input.
  Laid BY PROGRAM, IN A SANDBOX (cutbox-rows.mjs): the forced cells as the released guide's own fill.sh prints them over the translation 97d2ab139850fa8e… (all of the seat's roots in one cut). By AI agents, Wed Nov 11 2026. No macro, syntax, notation, axiom, sorry.
-/
import Derived.Test.YtgdaihliomihcacChecked
import GoSem.Claim
import GoSem.ClaimJoined
import GoSem.ClaimMapViews
import Derived.JoinedTies
import Derived.KernelRfl
namespace Go.Proofs.Ytgdaihliomihcac
/- THE CELL 'sum', in the pinned program and in every row, IS THE sha256 OF THE DUMP (.gsa) THAT YtgdaihliomihcacProg.lean LOADS. Nothing in Lean hashes anything: it is a label: what it is worth is what the hold of that sum in a sandbox is worth. -/
noncomputable def Try.pinned : Pinned := { name := "ytgdaihliomihcac", sum := "97d2ab139850fa8ed0e0df9c45ad4b189126f845c67abb8f21a326518150c619", checked := Try.checked }
namespace Rows
def none {H : Type} : Left H := { results := [], args := [] }

/-- 'wayfinderlaw.FibMoments': WHATEVER THE INPUT: true; the input reads as it did. -/
def fibMomentsSpec : ChangeSpec := { name := "fibMoments", fn := fun _ => fun
  | [d1, d2] => { results := [.lit (.bool true)], args := [d1, d2] }
  | _ => none }
def fibMomentsRow : OpenClaim := { program := "ytgdaihliomihcac", sum := "97d2ab139850fa8ed0e0df9c45ad4b189126f845c67abb8f21a326518150c619", func := "wayfinder/wayfinderlaw.FibMoments", spec := "fibMoments", unfollowed := true, recurses := true, plainKeys := false, apart := false }
def FibMomentsSaid : Prop := fibMomentsRow.holds Try.pinned (OpenSpec.ofChange fibMomentsSpec)

/-- ITS FALSE NEIGHBOUR: 'it returns false'. Refute it at one input. -/
def fibMomentsWrong : ChangeSpec := { name := "fibMoments", fn := fun _ => fun
  | [d1, d2] => { results := [.lit (.bool false)], args := [d1, d2] }
  | _ => none }
def FibMomentsWrongFalsely : Prop := fibMomentsRow.holds Try.pinned (OpenSpec.ofChange fibMomentsWrong)

/-- 'wayfinderlaw.FibTouches': WHATEVER THE INPUT: true; the input reads as it did. -/
def fibTouchesSpec : ChangeSpec := { name := "fibTouches", fn := fun _ => fun
  | [d1, d2, d3] => { results := [.lit (.bool true)], args := [d1, d2, d3] }
  | _ => none }
def fibTouchesRow : OpenClaim := { program := "ytgdaihliomihcac", sum := "97d2ab139850fa8ed0e0df9c45ad4b189126f845c67abb8f21a326518150c619", func := "wayfinder/wayfinderlaw.FibTouches", spec := "fibTouches", unfollowed := true, recurses := true, plainKeys := false, apart := false }
def FibTouchesSaid : Prop := fibTouchesRow.holds Try.pinned (OpenSpec.ofChange fibTouchesSpec)

/-- ITS FALSE NEIGHBOUR: 'it returns false'. Refute it at one input. -/
def fibTouchesWrong : ChangeSpec := { name := "fibTouches", fn := fun _ => fun
  | [d1, d2, d3] => { results := [.lit (.bool false)], args := [d1, d2, d3] }
  | _ => none }
def FibTouchesWrongFalsely : Prop := fibTouchesRow.holds Try.pinned (OpenSpec.ofChange fibTouchesWrong)

/-- 'wayfinderlaw.FibRaw': WHATEVER THE INPUT: true; the input reads as it did. -/
def fibRawSpec : ChangeSpec := { name := "fibRaw", fn := fun _ => fun
  | [d1, d2] => { results := [.lit (.bool true)], args := [d1, d2] }
  | _ => none }
def fibRawRow : OpenClaim := { program := "ytgdaihliomihcac", sum := "97d2ab139850fa8ed0e0df9c45ad4b189126f845c67abb8f21a326518150c619", func := "wayfinder/wayfinderlaw.FibRaw", spec := "fibRaw", unfollowed := true, recurses := true, plainKeys := false, apart := false }
def FibRawSaid : Prop := fibRawRow.holds Try.pinned (OpenSpec.ofChange fibRawSpec)

/-- ITS FALSE NEIGHBOUR: 'it returns false'. Refute it at one input. -/
def fibRawWrong : ChangeSpec := { name := "fibRaw", fn := fun _ => fun
  | [d1, d2] => { results := [.lit (.bool false)], args := [d1, d2] }
  | _ => none }
def FibRawWrongFalsely : Prop := fibRawRow.holds Try.pinned (OpenSpec.ofChange fibRawWrong)

/-- 'wayfinderlaw.FibLongest': WHATEVER THE INPUT: true; the input reads as it did. -/
def fibLongestSpec : ChangeSpec := { name := "fibLongest", fn := fun _ => fun
  | [d1, d2] => { results := [.lit (.bool true)], args := [d1, d2] }
  | _ => none }
def fibLongestRow : OpenClaim := { program := "ytgdaihliomihcac", sum := "97d2ab139850fa8ed0e0df9c45ad4b189126f845c67abb8f21a326518150c619", func := "wayfinder/wayfinderlaw.FibLongest", spec := "fibLongest", unfollowed := true, recurses := true, plainKeys := false, apart := false }
def FibLongestSaid : Prop := fibLongestRow.holds Try.pinned (OpenSpec.ofChange fibLongestSpec)

/-- ITS FALSE NEIGHBOUR: 'it returns false'. Refute it at one input. -/
def fibLongestWrong : ChangeSpec := { name := "fibLongest", fn := fun _ => fun
  | [d1, d2] => { results := [.lit (.bool false)], args := [d1, d2] }
  | _ => none }
def FibLongestWrongFalsely : Prop := fibLongestRow.holds Try.pinned (OpenSpec.ofChange fibLongestWrong)

/-- 'wayfinderlaw.SpfPaths': WHATEVER THE INPUT: true; the input reads as it did. -/
def spfPathsSpec : ChangeSpec := { name := "spfPaths", fn := fun _ => fun
  | [d1, d2] => { results := [.lit (.bool true)], args := [d1, d2] }
  | _ => none }
def spfPathsRow : OpenClaim := { program := "ytgdaihliomihcac", sum := "97d2ab139850fa8ed0e0df9c45ad4b189126f845c67abb8f21a326518150c619", func := "wayfinder/wayfinderlaw.SpfPaths", spec := "spfPaths", unfollowed := true, recurses := true, plainKeys := false, apart := false }
def SpfPathsSaid : Prop := spfPathsRow.holds Try.pinned (OpenSpec.ofChange spfPathsSpec)

/-- ITS FALSE NEIGHBOUR: 'it returns false'. Refute it at one input. -/
def spfPathsWrong : ChangeSpec := { name := "spfPaths", fn := fun _ => fun
  | [d1, d2] => { results := [.lit (.bool false)], args := [d1, d2] }
  | _ => none }
def SpfPathsWrongFalsely : Prop := spfPathsRow.holds Try.pinned (OpenSpec.ofChange spfPathsWrong)

/- THE SECOND FORM. 'bulk': how many values and letters a reading holds, each counted each time it is reached (what is shared counts as often as it is met; a slice's spare places count too). A statement '..UptoSaid' is the law's where the arguments, and the package variables that the reading takes, are together of bulk at most 1048576: NARROWER than '..Said'. Prove '..Said' where nothing that the law and all that it calls make is longer than what came in: it says more and counts as full. Else prove '..UptoSaid'. A law counts once. -/
mutual
def uptoBulk {H : Type} : DataW H → Nat
  | .lit (.string bytes) => bytes.length + 1
  | .lit _ => 1
  | .nil => 1
  | .ptr d => uptoBulk d + 1
  | .slice elems spare => uptoBulkAll elems + uptoBulkAll spare + 1
  | .agg parts => uptoBulkAll parts + 1
  | .iface _ d => uptoBulk d + 1
  | .map entries => uptoBulkEntries entries + 1
  | .held _ => 1
def uptoBulkAll {H : Type} : List (DataW H) → Nat
  | [] => 0
  | d :: r => uptoBulk d + uptoBulkAll r
def uptoBulkEntries {H : Type} : List (Lit × DataW H) → Nat
  | [] => 0
  | x :: r => uptoBulkEntry x + uptoBulkEntries r
def uptoBulkEntry {H : Type} : Lit × DataW H → Nat
  | (.string bytes, d) => bytes.length + uptoBulk d + 1
  | (_, d) => uptoBulk d + 1
 end
def uptoSmall : (H : Type) → List (DataW H) → Bool := fun _ ds => decide (uptoBulkAll ds ≤ 1048576)
def OpenSpec.upto (s : _root_.Go.ChangeSpec) : _root_.Go.OpenSpec := { _root_.Go.OpenSpec.ofChange s with cond := some uptoSmall }

/-- 'wayfinderlaw.FibMoments', WHERE WHAT IT READS IS OF BULK AT MOST 1048576: true; the input reads as it did. -/
def fibMomentsUptoRow : OpenClaim := { program := "ytgdaihliomihcac", sum := "97d2ab139850fa8ed0e0df9c45ad4b189126f845c67abb8f21a326518150c619", func := "wayfinder/wayfinderlaw.FibMoments", spec := "fibMoments", unfollowed := true, recurses := true, plainKeys := false, apart := false, narrowed := true }
def FibMomentsUptoSaid : Prop := fibMomentsUptoRow.holds Try.pinned (OpenSpec.upto fibMomentsSpec)

/-- 'wayfinderlaw.FibTouches', WHERE WHAT IT READS IS OF BULK AT MOST 1048576: true; the input reads as it did. -/
def fibTouchesUptoRow : OpenClaim := { program := "ytgdaihliomihcac", sum := "97d2ab139850fa8ed0e0df9c45ad4b189126f845c67abb8f21a326518150c619", func := "wayfinder/wayfinderlaw.FibTouches", spec := "fibTouches", unfollowed := true, recurses := true, plainKeys := false, apart := false, narrowed := true }
def FibTouchesUptoSaid : Prop := fibTouchesUptoRow.holds Try.pinned (OpenSpec.upto fibTouchesSpec)

/-- 'wayfinderlaw.FibRaw', WHERE WHAT IT READS IS OF BULK AT MOST 1048576: true; the input reads as it did. -/
def fibRawUptoRow : OpenClaim := { program := "ytgdaihliomihcac", sum := "97d2ab139850fa8ed0e0df9c45ad4b189126f845c67abb8f21a326518150c619", func := "wayfinder/wayfinderlaw.FibRaw", spec := "fibRaw", unfollowed := true, recurses := true, plainKeys := false, apart := false, narrowed := true }
def FibRawUptoSaid : Prop := fibRawUptoRow.holds Try.pinned (OpenSpec.upto fibRawSpec)

/-- 'wayfinderlaw.FibLongest', WHERE WHAT IT READS IS OF BULK AT MOST 1048576: true; the input reads as it did. -/
def fibLongestUptoRow : OpenClaim := { program := "ytgdaihliomihcac", sum := "97d2ab139850fa8ed0e0df9c45ad4b189126f845c67abb8f21a326518150c619", func := "wayfinder/wayfinderlaw.FibLongest", spec := "fibLongest", unfollowed := true, recurses := true, plainKeys := false, apart := false, narrowed := true }
def FibLongestUptoSaid : Prop := fibLongestUptoRow.holds Try.pinned (OpenSpec.upto fibLongestSpec)

/-- 'wayfinderlaw.SpfPaths', WHERE WHAT IT READS IS OF BULK AT MOST 1048576: true; the input reads as it did. -/
def spfPathsUptoRow : OpenClaim := { program := "ytgdaihliomihcac", sum := "97d2ab139850fa8ed0e0df9c45ad4b189126f845c67abb8f21a326518150c619", func := "wayfinder/wayfinderlaw.SpfPaths", spec := "spfPaths", unfollowed := true, recurses := true, plainKeys := false, apart := false, narrowed := true }
def SpfPathsUptoSaid : Prop := spfPathsUptoRow.holds Try.pinned (OpenSpec.upto spfPathsSpec)

end Rows
end Go.Proofs.Ytgdaihliomihcac
