/-
  DERIVED. GIVEN WITH THE SEED: THE CARDS: each row of YtagfdmkgnedlbabDoorRows.lean that lists a variable, with what it lists TIED to the program's text (the seventh form; the later family's looks); each row that meets fmt, with fmt's text TOLD by the authors' own Lean function (tested against real Go, not proved from fmt's source: count such statements apart). THE CARD IS WHAT COUNTS. Prove the row's statement (the work); the ties are given (YtagfdmkgnedlbabDoorTie.lean); close each card by the builder's one call (the guide's Derived/Test/ToyasCard.lean, 'card_holds'). Laid BY PROGRAM, IN A SANDBOX (cutbox-door.mjs). By AI agents, Wed Nov 11 2026. No macro, syntax, notation, axiom, sorry.
-/
import Derived.Test.YtagfdmkgnedlbabDoorRows
import GoSem.ClaimSeven
namespace Go.Proofs.YtagfdmkgnedlbabDoor
namespace Rows

/-- THE TIED CARD OF 'wayfinderlaw.PfxCuts'. -/
def pfxCutsCard : Claim7 := { stood := { row := pfxCutsRow, standIns := [], harness := (true, "d426a5f0d885ef22c274592c4746700222129bceb4ea17406b5e2f567ee7f4b9"), looks := false }, kinds := [], alts := [], laidByText := true, laidKinds := [.data], laidTests := true, laidLooks := .later }
def PfxCutsCardSaid : Prop := Claim7.holds Tryd.pinned (.plain (OpenSpec.ofChange pfxCutsSpec)) pfxCutsCard

/-- THE TIED CARD OF 'wayfinderlaw.PfxSets'. -/
def pfxSetsCard : Claim7 := { stood := { row := pfxSetsRow, standIns := [], harness := (true, "d426a5f0d885ef22c274592c4746700222129bceb4ea17406b5e2f567ee7f4b9"), looks := false }, kinds := [], alts := [], laidByText := true, laidKinds := [.data], laidTests := true, laidLooks := .later }
def PfxSetsCardSaid : Prop := Claim7.holds Tryd.pinned (.plain (OpenSpec.ofChange pfxSetsSpec)) pfxSetsCard

/-- THE SECOND FORM's CARD OF 'wayfinderlaw.PfxCuts'. -/
def pfxCutsUptoCard : Claim7 := { stood := { row := pfxCutsUptoRow, standIns := [], harness := (true, "d426a5f0d885ef22c274592c4746700222129bceb4ea17406b5e2f567ee7f4b9"), looks := false }, kinds := [], alts := [], laidByText := true, laidKinds := [.data], laidTests := true, laidLooks := .later }
def PfxCutsUptoCardSaid : Prop := Claim7.holds Tryd.pinned (.plain (OpenSpec.upto pfxCutsSpec)) pfxCutsUptoCard

/-- THE SECOND FORM's CARD OF 'wayfinderlaw.PfxSets'. -/
def pfxSetsUptoCard : Claim7 := { stood := { row := pfxSetsUptoRow, standIns := [], harness := (true, "d426a5f0d885ef22c274592c4746700222129bceb4ea17406b5e2f567ee7f4b9"), looks := false }, kinds := [], alts := [], laidByText := true, laidKinds := [.data], laidTests := true, laidLooks := .later }
def PfxSetsUptoCardSaid : Prop := Claim7.holds Tryd.pinned (.plain (OpenSpec.upto pfxSetsSpec)) pfxSetsUptoCard
end Rows
end Go.Proofs.YtagfdmkgnedlbabDoor
