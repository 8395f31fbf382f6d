/-
  No cell of these rows narrows 'for every input' (looked for: loops, veiled, ifaces, maps, wideKeys, modest, calm, conditions, laid).
  DERIVED. THE GIVEN ROWS OF THIS SEAT. 3 by the template 'for every input the law returns true; each argument reads behind the call as it read before'; 0 by the template 'total and deterministic' (their statements: YthibebjighjlaaaTotals.lean).
  GIVEN WITH THE SEED: the statements are not yours to turn. If you find one false, say at which input.
  Laid BY PROGRAM, IN A SANDBOX (cutbox-rows.mjs): the forced cells as the released guide's own fill.sh prints them over the translation 973c4671280b7cd5… (all of the seat's roots in one cut). By AI agents, Wed Nov 11 2026. No macro, syntax, notation, axiom, sorry.
-/
import Derived.Test.YthibebjighjlaaaChecked
import GoSem.Claim
import GoSem.ClaimJoined
import GoSem.ClaimMapViews
import Derived.JoinedTies
import Derived.KernelRfl
namespace Go.Proofs.Ythibebjighjlaaa
/- THE CELL 'sum', in the pinned program and in every row, IS THE sha256 OF THE DUMP (.gsa) THAT YthibebjighjlaaaProg.lean LOADS. Nothing in Lean hashes anything: it is a label: what it is worth is what the hold of that sum in a sandbox is worth. -/
noncomputable def Try.pinned : Pinned := { name := "ythibebjighjlaaa", sum := "973c4671280b7cd54db61c4a34eebb9f2453b1ea6086894cc21511eaf7f98fcf", checked := Try.checked }
namespace Rows
def none {H : Type} : Left H := { results := [], args := [] }

/-- 'wayfinderlaw.Names': WHATEVER THE INPUT: true; the input reads as it did. -/
def namesSpec : ChangeSpec := { name := "names", fn := fun _ => fun
  | [] => { results := [.lit (.bool true)], args := [] }
  | _ => none }
def namesRow : OpenClaim := { program := "ythibebjighjlaaa", sum := "973c4671280b7cd54db61c4a34eebb9f2453b1ea6086894cc21511eaf7f98fcf", func := "wayfinder/wayfinderlaw.Names", spec := "names", apart := false }
def NamesSaid : Prop := namesRow.holds Try.pinned (OpenSpec.ofChange namesSpec)

/-- ITS FALSE NEIGHBOUR: 'it returns false'. Refute it at one input. -/
def namesWrong : ChangeSpec := { name := "names", fn := fun _ => fun
  | [] => { results := [.lit (.bool false)], args := [] }
  | _ => none }
def NamesWrongFalsely : Prop := namesRow.holds Try.pinned (OpenSpec.ofChange namesWrong)

/-- 'wayfinderlaw.PfxReads': WHATEVER THE INPUT: true; the input reads as it did. -/
def pfxReadsSpec : ChangeSpec := { name := "pfxReads", fn := fun _ => fun
  | [d] => { results := [.lit (.bool true)], args := [d] }
  | _ => none }
def pfxReadsRow : OpenClaim := { program := "ythibebjighjlaaa", sum := "973c4671280b7cd54db61c4a34eebb9f2453b1ea6086894cc21511eaf7f98fcf", func := "wayfinder/wayfinderlaw.PfxReads", spec := "pfxReads", apart := false }
def PfxReadsSaid : Prop := pfxReadsRow.holds Try.pinned (OpenSpec.ofChange pfxReadsSpec)

/-- ITS FALSE NEIGHBOUR: 'it returns false'. Refute it at one input. -/
def pfxReadsWrong : ChangeSpec := { name := "pfxReads", fn := fun _ => fun
  | [d] => { results := [.lit (.bool false)], args := [d] }
  | _ => none }
def PfxReadsWrongFalsely : Prop := pfxReadsRow.holds Try.pinned (OpenSpec.ofChange pfxReadsWrong)

/-- 'wayfinderlaw.PfxAsks': WHATEVER THE INPUT: true; the input reads as it did. -/
def pfxAsksSpec : ChangeSpec := { name := "pfxAsks", fn := fun _ => fun
  | [d1, d2, d3] => { results := [.lit (.bool true)], args := [d1, d2, d3] }
  | _ => none }
def pfxAsksRow : OpenClaim := { program := "ythibebjighjlaaa", sum := "973c4671280b7cd54db61c4a34eebb9f2453b1ea6086894cc21511eaf7f98fcf", func := "wayfinder/wayfinderlaw.PfxAsks", spec := "pfxAsks", apart := false }
def PfxAsksSaid : Prop := pfxAsksRow.holds Try.pinned (OpenSpec.ofChange pfxAsksSpec)

/-- ITS FALSE NEIGHBOUR: 'it returns false'. Refute it at one input. -/
def pfxAsksWrong : ChangeSpec := { name := "pfxAsks", fn := fun _ => fun
  | [d1, d2, d3] => { results := [.lit (.bool false)], args := [d1, d2, d3] }
  | _ => none }
def PfxAsksWrongFalsely : Prop := pfxAsksRow.holds Try.pinned (OpenSpec.ofChange pfxAsksWrong)

/- THE SECOND FORM. 'bulk': how many values and letters a reading holds, each counted each time it is reached (what is shared counts as often as it is met; a slice's spare places count too). A statement '..UptoSaid' is the law's where the arguments, and the package variables that the reading takes, are together of bulk at most 1048576: NARROWER than '..Said'. Prove '..Said' where nothing that the law and all that it calls make is longer than what came in: it says more and counts as full. Else prove '..UptoSaid'. A law counts once. -/
mutual
def uptoBulk {H : Type} : DataW H → Nat
  | .lit (.string bytes) => bytes.length + 1
  | .lit _ => 1
  | .nil => 1
  | .ptr d => uptoBulk d + 1
  | .slice elems spare => uptoBulkAll elems + uptoBulkAll spare + 1
  | .agg parts => uptoBulkAll parts + 1
  | .iface _ d => uptoBulk d + 1
  | .map entries => uptoBulkEntries entries + 1
  | .held _ => 1
def uptoBulkAll {H : Type} : List (DataW H) → Nat
  | [] => 0
  | d :: r => uptoBulk d + uptoBulkAll r
def uptoBulkEntries {H : Type} : List (Lit × DataW H) → Nat
  | [] => 0
  | x :: r => uptoBulkEntry x + uptoBulkEntries r
def uptoBulkEntry {H : Type} : Lit × DataW H → Nat
  | (.string bytes, d) => bytes.length + uptoBulk d + 1
  | (_, d) => uptoBulk d + 1
 end
def uptoSmall : (H : Type) → List (DataW H) → Bool := fun _ ds => decide (uptoBulkAll ds ≤ 1048576)
def OpenSpec.upto (s : _root_.Go.ChangeSpec) : _root_.Go.OpenSpec := { _root_.Go.OpenSpec.ofChange s with cond := some uptoSmall }

/-- 'wayfinderlaw.Names', WHERE WHAT IT READS IS OF BULK AT MOST 1048576: true; the input reads as it did. -/
def namesUptoRow : OpenClaim := { program := "ythibebjighjlaaa", sum := "973c4671280b7cd54db61c4a34eebb9f2453b1ea6086894cc21511eaf7f98fcf", func := "wayfinder/wayfinderlaw.Names", spec := "names", apart := false, narrowed := true }
def NamesUptoSaid : Prop := namesUptoRow.holds Try.pinned (OpenSpec.upto namesSpec)

/-- 'wayfinderlaw.PfxReads', WHERE WHAT IT READS IS OF BULK AT MOST 1048576: true; the input reads as it did. -/
def pfxReadsUptoRow : OpenClaim := { program := "ythibebjighjlaaa", sum := "973c4671280b7cd54db61c4a34eebb9f2453b1ea6086894cc21511eaf7f98fcf", func := "wayfinder/wayfinderlaw.PfxReads", spec := "pfxReads", apart := false, narrowed := true }
def PfxReadsUptoSaid : Prop := pfxReadsUptoRow.holds Try.pinned (OpenSpec.upto pfxReadsSpec)

/-- 'wayfinderlaw.PfxAsks', WHERE WHAT IT READS IS OF BULK AT MOST 1048576: true; the input reads as it did. -/
def pfxAsksUptoRow : OpenClaim := { program := "ythibebjighjlaaa", sum := "973c4671280b7cd54db61c4a34eebb9f2453b1ea6086894cc21511eaf7f98fcf", func := "wayfinder/wayfinderlaw.PfxAsks", spec := "pfxAsks", apart := false, narrowed := true }
def PfxAsksUptoSaid : Prop := pfxAsksUptoRow.holds Try.pinned (OpenSpec.upto pfxAsksSpec)

end Rows
end Go.Proofs.Ythibebjighjlaaa
