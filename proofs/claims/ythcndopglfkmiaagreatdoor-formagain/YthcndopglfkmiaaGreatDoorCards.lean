/-
  DERIVED. GIVEN WITH THE SEED: THE CARDS: each row of YthcndopglfkmiaaGreatDoorRows.lean that lists a variable, with what it lists TIED to the program's text (the seventh form; the later family's looks); each row that meets fmt, with fmt's text TOLD by the authors' own Lean function (tested against real Go, not proved from fmt's source: count such statements apart). THE CARD IS WHAT COUNTS. Prove the row's statement (the work); the ties are given (YthcndopglfkmiaaGreatDoorTie.lean); close each card by the builder's one call (the guide's Derived/Test/ToyasCard.lean, 'card_holds'). Laid BY PROGRAM, IN A SANDBOX (cutbox-door.mjs). By AI agents, Wed Nov 11 2026. No macro, syntax, notation, axiom, sorry.
-/
import Derived.Test.YthcndopglfkmiaaGreatDoorRows
import GoSem.ClaimSeven
namespace Go.Proofs.YthcndopglfkmiaaGreatDoor
namespace Rows

/-- THE TIED CARD OF 'sextantlaw2.FormModules'. -/
def formModulesCard : Claim7 := { stood := { row := formModulesRow, standIns := [], harness := (true, "361a6eff8fc48c13c496ca1694f8a3f7ddbfdad6cbd155f7f115069af0660b87"), looks := true }, kinds := [], alts := [], laidByText := true, laidKinds := [.data, .data, .data, .handle, .sentinel, .sentinel], laidTests := true, laidLooks := .later }
def FormModulesCardSaid : Prop := Claim7.holds Tryz.pinned (.plain (OpenSpec.ofChange formModulesSpec)) formModulesCard

/-- THE TIED CARD OF 'sextantlaw2.FormAgain'. -/
def formAgainCard : Claim7 := { stood := { row := formAgainRow, standIns := [], harness := (true, "361a6eff8fc48c13c496ca1694f8a3f7ddbfdad6cbd155f7f115069af0660b87"), looks := true }, kinds := [], alts := [], laidByText := true, laidKinds := [.data, .data, .data, .sentinel, .sentinel], laidTests := true, laidLooks := .later }
def FormAgainCardSaid : Prop := Claim7.holds Tryz.pinned (.plain (OpenSpec.ofChange formAgainSpec)) formAgainCard

/-- THE SECOND FORM's CARD OF 'sextantlaw2.FormModules'. -/
def formModulesUptoCard : Claim7 := { stood := { row := formModulesUptoRow, standIns := [], harness := (true, "361a6eff8fc48c13c496ca1694f8a3f7ddbfdad6cbd155f7f115069af0660b87"), looks := true }, kinds := [], alts := [], laidByText := true, laidKinds := [.data, .data, .data, .handle, .sentinel, .sentinel], laidTests := true, laidLooks := .later }
def FormModulesUptoCardSaid : Prop := Claim7.holds Tryz.pinned (.plain (OpenSpec.upto formModulesSpec)) formModulesUptoCard

/-- THE SECOND FORM's CARD OF 'sextantlaw2.FormAgain'. -/
def formAgainUptoCard : Claim7 := { stood := { row := formAgainUptoRow, standIns := [], harness := (true, "361a6eff8fc48c13c496ca1694f8a3f7ddbfdad6cbd155f7f115069af0660b87"), looks := true }, kinds := [], alts := [], laidByText := true, laidKinds := [.data, .data, .data, .sentinel, .sentinel], laidTests := true, laidLooks := .later }
def FormAgainUptoCardSaid : Prop := Claim7.holds Tryz.pinned (.plain (OpenSpec.upto formAgainSpec)) formAgainUptoCard
end Rows
end Go.Proofs.YthcndopglfkmiaaGreatDoor
