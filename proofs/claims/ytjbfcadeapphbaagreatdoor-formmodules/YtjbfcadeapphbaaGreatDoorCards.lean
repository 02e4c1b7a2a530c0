/-
  DERIVED. GIVEN WITH THE SEED: THE CARDS: each row of YtjbfcadeapphbaaGreatDoorRows.lean that lists a variable, with what it lists TIED to the program's text (the seventh form; the later family's looks); each row that meets fmt, with fmt's text TOLD by the authors' own Lean function (tested against real Go, not proved from fmt's source: count such statements apart). THE CARD IS WHAT COUNTS. Prove the row's statement (the work); the ties are given (YtjbfcadeapphbaaGreatDoorTie.lean); close each card by the builder's one call (the guide's Derived/Test/ToyasCard.lean, 'card_holds'). Laid BY PROGRAM, IN A SANDBOX (cutbox-door.mjs). By AI agents, Wed Nov 11 2026. No macro, syntax, notation, axiom, sorry.
-/
import Derived.Test.YtjbfcadeapphbaaGreatDoorRows
import GoSem.ClaimSeven
namespace Go.Proofs.YtjbfcadeapphbaaGreatDoor
namespace Rows

/-- THE TIED CARD OF 'sextantlaw2.FormExprs'. -/
def formExprsCard : Claim7 := { stood := { row := formExprsRow, standIns := [], harness := (true, "95656576da5cbed55647d23bccd4119e7f6c0da25f78f952615c18352e3848ed"), looks := true }, kinds := [], alts := [], laidByText := true, laidKinds := [.data, .data, .data, .handle, .sentinel, .sentinel], laidTests := true, laidLooks := .later }
def FormExprsCardSaid : Prop := Claim7.holds Tryz.pinned (.plain (OpenSpec.ofChange formExprsSpec)) formExprsCard

/-- THE TIED CARD OF 'sextantlaw2.FormModules'. -/
def formModulesCard : Claim7 := { stood := { row := formModulesRow, standIns := [], harness := (true, "95656576da5cbed55647d23bccd4119e7f6c0da25f78f952615c18352e3848ed"), looks := true }, kinds := [], alts := [], laidByText := true, laidKinds := [.data, .data, .data, .handle, .sentinel, .sentinel], laidTests := true, laidLooks := .later }
def FormModulesCardSaid : Prop := Claim7.holds Tryz.pinned (.plain (OpenSpec.ofChange formModulesSpec)) formModulesCard

/-- THE TIED CARD OF 'sextantlaw2.FormAgain'. -/
def formAgainCard : Claim7 := { stood := { row := formAgainRow, standIns := [], harness := (true, "95656576da5cbed55647d23bccd4119e7f6c0da25f78f952615c18352e3848ed"), looks := true }, kinds := [], alts := [], laidByText := true, laidKinds := [.data, .data, .data, .sentinel, .sentinel], laidTests := true, laidLooks := .later }
def FormAgainCardSaid : Prop := Claim7.holds Tryz.pinned (.plain (OpenSpec.ofChange formAgainSpec)) formAgainCard

/-- THE SECOND FORM's CARD OF 'sextantlaw2.FormExprs'. -/
def formExprsUptoCard : Claim7 := { stood := { row := formExprsUptoRow, standIns := [], harness := (true, "95656576da5cbed55647d23bccd4119e7f6c0da25f78f952615c18352e3848ed"), looks := true }, kinds := [], alts := [], laidByText := true, laidKinds := [.data, .data, .data, .handle, .sentinel, .sentinel], laidTests := true, laidLooks := .later }
def FormExprsUptoCardSaid : Prop := Claim7.holds Tryz.pinned (.plain (OpenSpec.upto formExprsSpec)) formExprsUptoCard

/-- THE SECOND FORM's CARD OF 'sextantlaw2.FormModules'. -/
def formModulesUptoCard : Claim7 := { stood := { row := formModulesUptoRow, standIns := [], harness := (true, "95656576da5cbed55647d23bccd4119e7f6c0da25f78f952615c18352e3848ed"), looks := true }, kinds := [], alts := [], laidByText := true, laidKinds := [.data, .data, .data, .handle, .sentinel, .sentinel], laidTests := true, laidLooks := .later }
def FormModulesUptoCardSaid : Prop := Claim7.holds Tryz.pinned (.plain (OpenSpec.upto formModulesSpec)) formModulesUptoCard

/-- THE SECOND FORM's CARD OF 'sextantlaw2.FormAgain'. -/
def formAgainUptoCard : Claim7 := { stood := { row := formAgainUptoRow, standIns := [], harness := (true, "95656576da5cbed55647d23bccd4119e7f6c0da25f78f952615c18352e3848ed"), looks := true }, kinds := [], alts := [], laidByText := true, laidKinds := [.data, .data, .data, .sentinel, .sentinel], laidTests := true, laidLooks := .later }
def FormAgainUptoCardSaid : Prop := Claim7.holds Tryz.pinned (.plain (OpenSpec.upto formAgainSpec)) formAgainUptoCard
end Rows
end Go.Proofs.YtjbfcadeapphbaaGreatDoor
