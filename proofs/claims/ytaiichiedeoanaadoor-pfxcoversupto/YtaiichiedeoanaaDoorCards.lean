/-
  DERIVED. GIVEN WITH THE SEED: THE CARDS: each row of YtaiichiedeoanaaDoorRows.lean that lists a variable, with what it lists TIED to the program's text (the seventh form; the later family's looks); each row that meets fmt, with fmt's text TOLD by the authors' own Lean function (tested against real Go, not proved from fmt's source: count such statements apart). THE CARD IS WHAT COUNTS. Prove the row's statement (the work); the ties are given (YtaiichiedeoanaaDoorTie.lean); close each card by the builder's one call (the guide's Derived/Test/ToyasCard.lean, 'card_holds'). Laid BY PROGRAM, IN A SANDBOX (cutbox-door.mjs). By AI agents, Wed Nov 11 2026. No macro, syntax, notation, axiom, sorry.
-/
import Derived.Test.YtaiichiedeoanaaDoorRows
import GoSem.ClaimSeven
namespace Go.Proofs.YtaiichiedeoanaaDoor
namespace Rows

/-- THE TIED CARD OF 'wayfinderlaw.PfxPrints'. -/
def pfxPrintsCard : Claim7 := { stood := { row := pfxPrintsRow, standIns := [], harness := (true, "ae713f26e917bf6daff38fc2ccb58794d8cc6b793f23b0a99fcd9d859662e652"), looks := false }, kinds := [], alts := [], laidByText := true, laidKinds := [.data, .data, .data], laidTests := true, laidLooks := .later }
def PfxPrintsCardSaid : Prop := Claim7.holds Tryd.pinned (.plain (OpenSpec.ofChange pfxPrintsSpec)) pfxPrintsCard

/-- THE TIED CARD OF 'wayfinderlaw.PfxBack'. -/
def pfxBackCard : Claim7 := { stood := { row := pfxBackRow, standIns := [], harness := (true, "ae713f26e917bf6daff38fc2ccb58794d8cc6b793f23b0a99fcd9d859662e652"), looks := false }, kinds := [], alts := [], laidByText := true, laidKinds := [.data, .data, .data], laidTests := true, laidLooks := .later }
def PfxBackCardSaid : Prop := Claim7.holds Tryd.pinned (.plain (OpenSpec.ofChange pfxBackSpec)) pfxBackCard

/-- THE TIED CARD OF 'wayfinderlaw.PfxCovers'. -/
def pfxCoversCard : Claim7 := { stood := { row := pfxCoversRow, standIns := [], harness := (true, "ae713f26e917bf6daff38fc2ccb58794d8cc6b793f23b0a99fcd9d859662e652"), looks := false }, kinds := [], alts := [], laidByText := true, laidKinds := [.data], laidTests := true, laidLooks := .later }
def PfxCoversCardSaid : Prop := Claim7.holds Tryd.pinned (.plain (OpenSpec.ofChange pfxCoversSpec)) pfxCoversCard

/-- THE SECOND FORM's CARD OF 'wayfinderlaw.PfxPrints'. -/
def pfxPrintsUptoCard : Claim7 := { stood := { row := pfxPrintsUptoRow, standIns := [], harness := (true, "ae713f26e917bf6daff38fc2ccb58794d8cc6b793f23b0a99fcd9d859662e652"), looks := false }, kinds := [], alts := [], laidByText := true, laidKinds := [.data, .data, .data], laidTests := true, laidLooks := .later }
def PfxPrintsUptoCardSaid : Prop := Claim7.holds Tryd.pinned (.plain (OpenSpec.upto pfxPrintsSpec)) pfxPrintsUptoCard

/-- THE SECOND FORM's CARD OF 'wayfinderlaw.PfxBack'. -/
def pfxBackUptoCard : Claim7 := { stood := { row := pfxBackUptoRow, standIns := [], harness := (true, "ae713f26e917bf6daff38fc2ccb58794d8cc6b793f23b0a99fcd9d859662e652"), looks := false }, kinds := [], alts := [], laidByText := true, laidKinds := [.data, .data, .data], laidTests := true, laidLooks := .later }
def PfxBackUptoCardSaid : Prop := Claim7.holds Tryd.pinned (.plain (OpenSpec.upto pfxBackSpec)) pfxBackUptoCard

/-- THE SECOND FORM's CARD OF 'wayfinderlaw.PfxCovers'. -/
def pfxCoversUptoCard : Claim7 := { stood := { row := pfxCoversUptoRow, standIns := [], harness := (true, "ae713f26e917bf6daff38fc2ccb58794d8cc6b793f23b0a99fcd9d859662e652"), looks := false }, kinds := [], alts := [], laidByText := true, laidKinds := [.data], laidTests := true, laidLooks := .later }
def PfxCoversUptoCardSaid : Prop := Claim7.holds Tryd.pinned (.plain (OpenSpec.upto pfxCoversSpec)) pfxCoversUptoCard
end Rows
end Go.Proofs.YtaiichiedeoanaaDoor
