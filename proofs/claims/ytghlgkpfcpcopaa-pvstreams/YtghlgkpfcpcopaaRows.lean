/-
  No cell of these rows narrows 'for every input' (looked for: loops, veiled, ifaces, maps, wideKeys, modest, calm, conditions, laid).
  DERIVED. THE GIVEN ROWS OF THIS SEAT. 4 by the template 'for every input the law returns true; each argument reads behind the call as it read before'; 0 by the template 'total and deterministic' (their statements: YtghlgkpfcpcopaaTotals.lean).
  GIVEN WITH THE SEED: the statements are not yours to turn. If you find one false, say at which input.
  Laid BY PROGRAM, IN A SANDBOX (cutbox-rows.mjs): the forced cells as the released guide's own fill.sh prints them over the translation 5cb06e70812c0ff4… (all of the seat's roots in one cut). By AI agents, Wed Nov 11 2026. No macro, syntax, notation, axiom, sorry.
-/
import Derived.Test.YtghlgkpfcpcopaaChecked
import GoSem.Claim
import GoSem.ClaimJoined
import GoSem.ClaimMapViews
import Derived.JoinedTies
import Derived.KernelRfl
namespace Go.Proofs.Ytghlgkpfcpcopaa
/- THE CELL 'sum', in the pinned program and in every row, IS THE sha256 OF THE DUMP (.gsa) THAT YtghlgkpfcpcopaaProg.lean LOADS. Nothing in Lean hashes anything: it is a label: what it is worth is what the hold of that sum in a sandbox is worth. -/
noncomputable def Try.pinned : Pinned := { name := "ytghlgkpfcpcopaa", sum := "5cb06e70812c0ff41fd0239eb500a211fac523dbe58c838d88112a6fd7620eb2", checked := Try.checked }
namespace Rows
def none {H : Type} : Left H := { results := [], args := [] }

/-- 'wayfinderlaw.PvReads': WHATEVER THE INPUT: true; the input reads as it did. -/
def pvReadsSpec : ChangeSpec := { name := "pvReads", fn := fun _ => fun
  | [d] => { results := [.lit (.bool true)], args := [d] }
  | _ => none }
def pvReadsRow : OpenClaim := { program := "ytghlgkpfcpcopaa", sum := "5cb06e70812c0ff41fd0239eb500a211fac523dbe58c838d88112a6fd7620eb2", func := "wayfinder/wayfinderlaw.PvReads", spec := "pvReads", unfollowed := true, recurses := true, apart := false }
def PvReadsSaid : Prop := pvReadsRow.holds Try.pinned (OpenSpec.ofChange pvReadsSpec)

/-- ITS FALSE NEIGHBOUR: 'it returns false'. Refute it at one input. -/
def pvReadsWrong : ChangeSpec := { name := "pvReads", fn := fun _ => fun
  | [d] => { results := [.lit (.bool false)], args := [d] }
  | _ => none }
def PvReadsWrongFalsely : Prop := pvReadsRow.holds Try.pinned (OpenSpec.ofChange pvReadsWrong)

/-- 'wayfinderlaw.PvOnly': WHATEVER THE INPUT: true; the input reads as it did. -/
def pvOnlySpec : ChangeSpec := { name := "pvOnly", fn := fun _ => fun
  | [d] => { results := [.lit (.bool true)], args := [d] }
  | _ => none }
def pvOnlyRow : OpenClaim := { program := "ytghlgkpfcpcopaa", sum := "5cb06e70812c0ff41fd0239eb500a211fac523dbe58c838d88112a6fd7620eb2", func := "wayfinder/wayfinderlaw.PvOnly", spec := "pvOnly", unfollowed := true, recurses := true, apart := false }
def PvOnlySaid : Prop := pvOnlyRow.holds Try.pinned (OpenSpec.ofChange pvOnlySpec)

/-- ITS FALSE NEIGHBOUR: 'it returns false'. Refute it at one input. -/
def pvOnlyWrong : ChangeSpec := { name := "pvOnly", fn := fun _ => fun
  | [d] => { results := [.lit (.bool false)], args := [d] }
  | _ => none }
def PvOnlyWrongFalsely : Prop := pvOnlyRow.holds Try.pinned (OpenSpec.ofChange pvOnlyWrong)

/-- 'wayfinderlaw.PvStreams': WHATEVER THE INPUT: true; the input reads as it did. -/
def pvStreamsSpec : ChangeSpec := { name := "pvStreams", fn := fun _ => fun
  | [d1, d2] => { results := [.lit (.bool true)], args := [d1, d2] }
  | _ => none }
def pvStreamsRow : OpenClaim := { program := "ytghlgkpfcpcopaa", sum := "5cb06e70812c0ff41fd0239eb500a211fac523dbe58c838d88112a6fd7620eb2", func := "wayfinder/wayfinderlaw.PvStreams", spec := "pvStreams", unfollowed := true, recurses := true, apart := false }
def PvStreamsSaid : Prop := pvStreamsRow.holds Try.pinned (OpenSpec.ofChange pvStreamsSpec)

/-- ITS FALSE NEIGHBOUR: 'it returns false'. Refute it at one input. -/
def pvStreamsWrong : ChangeSpec := { name := "pvStreams", fn := fun _ => fun
  | [d1, d2] => { results := [.lit (.bool false)], args := [d1, d2] }
  | _ => none }
def PvStreamsWrongFalsely : Prop := pvStreamsRow.holds Try.pinned (OpenSpec.ofChange pvStreamsWrong)

/-- 'wayfinderlaw.PvPieces': WHATEVER THE INPUT: true; the input reads as it did. -/
def pvPiecesSpec : ChangeSpec := { name := "pvPieces", fn := fun _ => fun
  | [d1, d2, d3] => { results := [.lit (.bool true)], args := [d1, d2, d3] }
  | _ => none }
def pvPiecesRow : OpenClaim := { program := "ytghlgkpfcpcopaa", sum := "5cb06e70812c0ff41fd0239eb500a211fac523dbe58c838d88112a6fd7620eb2", func := "wayfinder/wayfinderlaw.PvPieces", spec := "pvPieces", unfollowed := true, recurses := true, apart := false }
def PvPiecesSaid : Prop := pvPiecesRow.holds Try.pinned (OpenSpec.ofChange pvPiecesSpec)

/-- ITS FALSE NEIGHBOUR: 'it returns false'. Refute it at one input. -/
def pvPiecesWrong : ChangeSpec := { name := "pvPieces", fn := fun _ => fun
  | [d1, d2, d3] => { results := [.lit (.bool false)], args := [d1, d2, d3] }
  | _ => none }
def PvPiecesWrongFalsely : Prop := pvPiecesRow.holds Try.pinned (OpenSpec.ofChange pvPiecesWrong)

/- THE SECOND FORM. 'bulk': how many values and letters a reading holds, each counted each time it is reached (what is shared counts as often as it is met; a slice's spare places count too). A statement '..UptoSaid' is the law's where the arguments, and the package variables that the reading takes, are together of bulk at most 1048576: NARROWER than '..Said'. Prove '..Said' where nothing that the law and all that it calls make is longer than what came in: it says more and counts as full. Else prove '..UptoSaid'. A law counts once. -/
mutual
def uptoBulk {H : Type} : DataW H → Nat
  | .lit (.string bytes) => bytes.length + 1
  | .lit _ => 1
  | .nil => 1
  | .ptr d => uptoBulk d + 1
  | .slice elems spare => uptoBulkAll elems + uptoBulkAll spare + 1
  | .agg parts => uptoBulkAll parts + 1
  | .iface _ d => uptoBulk d + 1
  | .map entries => uptoBulkEntries entries + 1
  | .held _ => 1
def uptoBulkAll {H : Type} : List (DataW H) → Nat
  | [] => 0
  | d :: r => uptoBulk d + uptoBulkAll r
def uptoBulkEntries {H : Type} : List (Lit × DataW H) → Nat
  | [] => 0
  | x :: r => uptoBulkEntry x + uptoBulkEntries r
def uptoBulkEntry {H : Type} : Lit × DataW H → Nat
  | (.string bytes, d) => bytes.length + uptoBulk d + 1
  | (_, d) => uptoBulk d + 1
 end
def uptoSmall : (H : Type) → List (DataW H) → Bool := fun _ ds => decide (uptoBulkAll ds ≤ 1048576)
def OpenSpec.upto (s : _root_.Go.ChangeSpec) : _root_.Go.OpenSpec := { _root_.Go.OpenSpec.ofChange s with cond := some uptoSmall }

/-- 'wayfinderlaw.PvReads', WHERE WHAT IT READS IS OF BULK AT MOST 1048576: true; the input reads as it did. -/
def pvReadsUptoRow : OpenClaim := { program := "ytghlgkpfcpcopaa", sum := "5cb06e70812c0ff41fd0239eb500a211fac523dbe58c838d88112a6fd7620eb2", func := "wayfinder/wayfinderlaw.PvReads", spec := "pvReads", unfollowed := true, recurses := true, apart := false, narrowed := true }
def PvReadsUptoSaid : Prop := pvReadsUptoRow.holds Try.pinned (OpenSpec.upto pvReadsSpec)

/-- 'wayfinderlaw.PvOnly', WHERE WHAT IT READS IS OF BULK AT MOST 1048576: true; the input reads as it did. -/
def pvOnlyUptoRow : OpenClaim := { program := "ytghlgkpfcpcopaa", sum := "5cb06e70812c0ff41fd0239eb500a211fac523dbe58c838d88112a6fd7620eb2", func := "wayfinder/wayfinderlaw.PvOnly", spec := "pvOnly", unfollowed := true, recurses := true, apart := false, narrowed := true }
def PvOnlyUptoSaid : Prop := pvOnlyUptoRow.holds Try.pinned (OpenSpec.upto pvOnlySpec)

/-- 'wayfinderlaw.PvStreams', WHERE WHAT IT READS IS OF BULK AT MOST 1048576: true; the input reads as it did. -/
def pvStreamsUptoRow : OpenClaim := { program := "ytghlgkpfcpcopaa", sum := "5cb06e70812c0ff41fd0239eb500a211fac523dbe58c838d88112a6fd7620eb2", func := "wayfinder/wayfinderlaw.PvStreams", spec := "pvStreams", unfollowed := true, recurses := true, apart := false, narrowed := true }
def PvStreamsUptoSaid : Prop := pvStreamsUptoRow.holds Try.pinned (OpenSpec.upto pvStreamsSpec)

/-- 'wayfinderlaw.PvPieces', WHERE WHAT IT READS IS OF BULK AT MOST 1048576: true; the input reads as it did. -/
def pvPiecesUptoRow : OpenClaim := { program := "ytghlgkpfcpcopaa", sum := "5cb06e70812c0ff41fd0239eb500a211fac523dbe58c838d88112a6fd7620eb2", func := "wayfinder/wayfinderlaw.PvPieces", spec := "pvPieces", unfollowed := true, recurses := true, apart := false, narrowed := true }
def PvPiecesUptoSaid : Prop := pvPiecesUptoRow.holds Try.pinned (OpenSpec.upto pvPiecesSpec)

end Rows
end Go.Proofs.Ytghlgkpfcpcopaa
