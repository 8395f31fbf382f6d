/-
  No cell of these rows narrows 'for every input' (looked for: loops, veiled, ifaces, maps, wideKeys, modest, calm, conditions, laid).
  DERIVED. THE GIVEN ROWS OF THIS SEAT. 5 by the template 'for every input the law returns true; each argument reads behind the call as it read before'; 0 by the template 'total and deterministic' (their statements: YtagfdmkgnedlbaeTotals.lean).
  GIVEN WITH THE SEED: the statements are not yours to turn. If you find one false, say at which input.
  Laid BY PROGRAM, IN A SANDBOX (cutbox-rows.mjs): the forced cells as the released guide's own fill.sh prints them over the translation 053966db80fd34ba… (all of the seat's roots in one cut). By AI agents, Wed Nov 11 2026. No macro, syntax, notation, axiom, sorry.
-/
import Derived.Test.YtagfdmkgnedlbaeChecked
import GoSem.Claim
import GoSem.ClaimJoined
import GoSem.ClaimMapViews
import Derived.JoinedTies
import Derived.KernelRfl
namespace Go.Proofs.Ytagfdmkgnedlbae
/- THE CELL 'sum', in the pinned program and in every row, IS THE sha256 OF THE DUMP (.gsa) THAT YtagfdmkgnedlbaeProg.lean LOADS. Nothing in Lean hashes anything: it is a label: what it is worth is what the hold of that sum in a sandbox is worth. -/
noncomputable def Try.pinned : Pinned := { name := "ytagfdmkgnedlbae", sum := "053966db80fd34baf610cc6f66e557297f334ea6db24bdf5af780001498af8a6", checked := Try.checked }
namespace Rows
def none {H : Type} : Left H := { results := [], args := [] }

/-- 'wayfinderlaw.LsaAsks': WHATEVER THE INPUT: true; the input reads as it did. -/
def lsaAsksSpec : ChangeSpec := { name := "lsaAsks", fn := fun _ => fun
  | [d1, d2] => { results := [.lit (.bool true)], args := [d1, d2] }
  | _ => none }
def lsaAsksRow : OpenClaim := { program := "ytagfdmkgnedlbae", sum := "053966db80fd34baf610cc6f66e557297f334ea6db24bdf5af780001498af8a6", func := "wayfinder/wayfinderlaw.LsaAsks", spec := "lsaAsks", unfollowed := true, recurses := true, apart := false }
def LsaAsksSaid : Prop := lsaAsksRow.holds Try.pinned (OpenSpec.ofChange lsaAsksSpec)

/-- ITS FALSE NEIGHBOUR: 'it returns false'. Refute it at one input. -/
def lsaAsksWrong : ChangeSpec := { name := "lsaAsks", fn := fun _ => fun
  | [d1, d2] => { results := [.lit (.bool false)], args := [d1, d2] }
  | _ => none }
def LsaAsksWrongFalsely : Prop := lsaAsksRow.holds Try.pinned (OpenSpec.ofChange lsaAsksWrong)

/-- 'wayfinderlaw.LsaOutright': WHATEVER THE INPUT: true; the input reads as it did. -/
def lsaOutrightSpec : ChangeSpec := { name := "lsaOutright", fn := fun _ => fun
  | [d1, d2, d3] => { results := [.lit (.bool true)], args := [d1, d2, d3] }
  | _ => none }
def lsaOutrightRow : OpenClaim := { program := "ytagfdmkgnedlbae", sum := "053966db80fd34baf610cc6f66e557297f334ea6db24bdf5af780001498af8a6", func := "wayfinder/wayfinderlaw.LsaOutright", spec := "lsaOutright", unfollowed := true, recurses := true, apart := false }
def LsaOutrightSaid : Prop := lsaOutrightRow.holds Try.pinned (OpenSpec.ofChange lsaOutrightSpec)

/-- ITS FALSE NEIGHBOUR: 'it returns false'. Refute it at one input. -/
def lsaOutrightWrong : ChangeSpec := { name := "lsaOutright", fn := fun _ => fun
  | [d1, d2, d3] => { results := [.lit (.bool false)], args := [d1, d2, d3] }
  | _ => none }
def LsaOutrightWrongFalsely : Prop := lsaOutrightRow.holds Try.pinned (OpenSpec.ofChange lsaOutrightWrong)

/-- 'wayfinderlaw.LsaCodes': WHATEVER THE INPUT: true; the input reads as it did. -/
def lsaCodesSpec : ChangeSpec := { name := "lsaCodes", fn := fun _ => fun
  | [d1, d2] => { results := [.lit (.bool true)], args := [d1, d2] }
  | _ => none }
def lsaCodesRow : OpenClaim := { program := "ytagfdmkgnedlbae", sum := "053966db80fd34baf610cc6f66e557297f334ea6db24bdf5af780001498af8a6", func := "wayfinder/wayfinderlaw.LsaCodes", spec := "lsaCodes", apart := false }
def LsaCodesSaid : Prop := lsaCodesRow.holds Try.pinned (OpenSpec.ofChange lsaCodesSpec)

/-- ITS FALSE NEIGHBOUR: 'it returns false'. Refute it at one input. -/
def lsaCodesWrong : ChangeSpec := { name := "lsaCodes", fn := fun _ => fun
  | [d1, d2] => { results := [.lit (.bool false)], args := [d1, d2] }
  | _ => none }
def LsaCodesWrongFalsely : Prop := lsaCodesRow.holds Try.pinned (OpenSpec.ofChange lsaCodesWrong)

/-- 'wayfinderlaw.LsaBack': WHATEVER THE INPUT: true; the input reads as it did. -/
def lsaBackSpec : ChangeSpec := { name := "lsaBack", fn := fun _ => fun
  | [d1, d2] => { results := [.lit (.bool true)], args := [d1, d2] }
  | _ => none }
def lsaBackRow : OpenClaim := { program := "ytagfdmkgnedlbae", sum := "053966db80fd34baf610cc6f66e557297f334ea6db24bdf5af780001498af8a6", func := "wayfinder/wayfinderlaw.LsaBack", spec := "lsaBack", apart := false }
def LsaBackSaid : Prop := lsaBackRow.holds Try.pinned (OpenSpec.ofChange lsaBackSpec)

/-- ITS FALSE NEIGHBOUR: 'it returns false'. Refute it at one input. -/
def lsaBackWrong : ChangeSpec := { name := "lsaBack", fn := fun _ => fun
  | [d1, d2] => { results := [.lit (.bool false)], args := [d1, d2] }
  | _ => none }
def LsaBackWrongFalsely : Prop := lsaBackRow.holds Try.pinned (OpenSpec.ofChange lsaBackWrong)

/-- 'wayfinderlaw.LsaBurst': WHATEVER THE INPUT: true; the input reads as it did. -/
def lsaBurstSpec : ChangeSpec := { name := "lsaBurst", fn := fun _ => fun
  | [d1, d2, d3] => { results := [.lit (.bool true)], args := [d1, d2, d3] }
  | _ => none }
def lsaBurstRow : OpenClaim := { program := "ytagfdmkgnedlbae", sum := "053966db80fd34baf610cc6f66e557297f334ea6db24bdf5af780001498af8a6", func := "wayfinder/wayfinderlaw.LsaBurst", spec := "lsaBurst", apart := false }
def LsaBurstSaid : Prop := lsaBurstRow.holds Try.pinned (OpenSpec.ofChange lsaBurstSpec)

/-- ITS FALSE NEIGHBOUR: 'it returns false'. Refute it at one input. -/
def lsaBurstWrong : ChangeSpec := { name := "lsaBurst", fn := fun _ => fun
  | [d1, d2, d3] => { results := [.lit (.bool false)], args := [d1, d2, d3] }
  | _ => none }
def LsaBurstWrongFalsely : Prop := lsaBurstRow.holds Try.pinned (OpenSpec.ofChange lsaBurstWrong)

/- THE SECOND FORM. 'bulk': how many values and letters a reading holds, each counted each time it is reached (what is shared counts as often as it is met; a slice's spare places count too). A statement '..UptoSaid' is the law's where the arguments, and the package variables that the reading takes, are together of bulk at most 1048576: NARROWER than '..Said'. Prove '..Said' where nothing that the law and all that it calls make is longer than what came in: it says more and counts as full. Else prove '..UptoSaid'. A law counts once. -/
mutual
def uptoBulk {H : Type} : DataW H → Nat
  | .lit (.string bytes) => bytes.length + 1
  | .lit _ => 1
  | .nil => 1
  | .ptr d => uptoBulk d + 1
  | .slice elems spare => uptoBulkAll elems + uptoBulkAll spare + 1
  | .agg parts => uptoBulkAll parts + 1
  | .iface _ d => uptoBulk d + 1
  | .map entries => uptoBulkEntries entries + 1
  | .held _ => 1
def uptoBulkAll {H : Type} : List (DataW H) → Nat
  | [] => 0
  | d :: r => uptoBulk d + uptoBulkAll r
def uptoBulkEntries {H : Type} : List (Lit × DataW H) → Nat
  | [] => 0
  | x :: r => uptoBulkEntry x + uptoBulkEntries r
def uptoBulkEntry {H : Type} : Lit × DataW H → Nat
  | (.string bytes, d) => bytes.length + uptoBulk d + 1
  | (_, d) => uptoBulk d + 1
 end
def uptoSmall : (H : Type) → List (DataW H) → Bool := fun _ ds => decide (uptoBulkAll ds ≤ 1048576)
def OpenSpec.upto (s : _root_.Go.ChangeSpec) : _root_.Go.OpenSpec := { _root_.Go.OpenSpec.ofChange s with cond := some uptoSmall }

/-- 'wayfinderlaw.LsaAsks', WHERE WHAT IT READS IS OF BULK AT MOST 1048576: true; the input reads as it did. -/
def lsaAsksUptoRow : OpenClaim := { program := "ytagfdmkgnedlbae", sum := "053966db80fd34baf610cc6f66e557297f334ea6db24bdf5af780001498af8a6", func := "wayfinder/wayfinderlaw.LsaAsks", spec := "lsaAsks", unfollowed := true, recurses := true, apart := false, narrowed := true }
def LsaAsksUptoSaid : Prop := lsaAsksUptoRow.holds Try.pinned (OpenSpec.upto lsaAsksSpec)

/-- 'wayfinderlaw.LsaOutright', WHERE WHAT IT READS IS OF BULK AT MOST 1048576: true; the input reads as it did. -/
def lsaOutrightUptoRow : OpenClaim := { program := "ytagfdmkgnedlbae", sum := "053966db80fd34baf610cc6f66e557297f334ea6db24bdf5af780001498af8a6", func := "wayfinder/wayfinderlaw.LsaOutright", spec := "lsaOutright", unfollowed := true, recurses := true, apart := false, narrowed := true }
def LsaOutrightUptoSaid : Prop := lsaOutrightUptoRow.holds Try.pinned (OpenSpec.upto lsaOutrightSpec)

/-- 'wayfinderlaw.LsaCodes', WHERE WHAT IT READS IS OF BULK AT MOST 1048576: true; the input reads as it did. -/
def lsaCodesUptoRow : OpenClaim := { program := "ytagfdmkgnedlbae", sum := "053966db80fd34baf610cc6f66e557297f334ea6db24bdf5af780001498af8a6", func := "wayfinder/wayfinderlaw.LsaCodes", spec := "lsaCodes", apart := false, narrowed := true }
def LsaCodesUptoSaid : Prop := lsaCodesUptoRow.holds Try.pinned (OpenSpec.upto lsaCodesSpec)

/-- 'wayfinderlaw.LsaBack', WHERE WHAT IT READS IS OF BULK AT MOST 1048576: true; the input reads as it did. -/
def lsaBackUptoRow : OpenClaim := { program := "ytagfdmkgnedlbae", sum := "053966db80fd34baf610cc6f66e557297f334ea6db24bdf5af780001498af8a6", func := "wayfinder/wayfinderlaw.LsaBack", spec := "lsaBack", apart := false, narrowed := true }
def LsaBackUptoSaid : Prop := lsaBackUptoRow.holds Try.pinned (OpenSpec.upto lsaBackSpec)

/-- 'wayfinderlaw.LsaBurst', WHERE WHAT IT READS IS OF BULK AT MOST 1048576: true; the input reads as it did. -/
def lsaBurstUptoRow : OpenClaim := { program := "ytagfdmkgnedlbae", sum := "053966db80fd34baf610cc6f66e557297f334ea6db24bdf5af780001498af8a6", func := "wayfinder/wayfinderlaw.LsaBurst", spec := "lsaBurst", apart := false, narrowed := true }
def LsaBurstUptoSaid : Prop := lsaBurstUptoRow.holds Try.pinned (OpenSpec.upto lsaBurstSpec)

end Rows
end Go.Proofs.Ytagfdmkgnedlbae
