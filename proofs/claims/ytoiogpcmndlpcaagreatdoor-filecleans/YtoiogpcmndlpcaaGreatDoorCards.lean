/-
  DERIVED. GIVEN WITH THE SEED: THE CARDS: each row of YtoiogpcmndlpcaaGreatDoorRows.lean that lists a variable, with what it lists TIED to the program's text (the seventh form; the later family's looks); each row that meets fmt, with fmt's text TOLD by the authors' own Lean function (tested against real Go, not proved from fmt's source: count such statements apart). THE CARD IS WHAT COUNTS. Prove the row's statement (the work); the ties are given (YtoiogpcmndlpcaaGreatDoorTie.lean); close each card by the builder's one call (the guide's Derived/Test/ToyasCard.lean, 'card_holds'). Laid BY PROGRAM, IN A SANDBOX (cutbox-door.mjs). By AI agents, Wed Nov 11 2026. No macro, syntax, notation, axiom, sorry.
-/
import Derived.Test.YtoiogpcmndlpcaaGreatDoorRows
import GoSem.ClaimSeven
namespace Go.Proofs.YtoiogpcmndlpcaaGreatDoor
namespace Rows

/-- THE TIED CARD OF 'freightlaw6.FilePlays'. -/
def filePlaysCard : Claim7 := { stood := { row := filePlaysRow, standIns := [], harness := (true, "25788d57aa8e1db147963f63f82efde585205c6cadf5f4c55669db83217eae1a"), looks := true }, kinds := [], alts := [], laidByText := true, laidKinds := [.handle], laidTests := true, laidLooks := .later }
def FilePlaysCardSaid : Prop := Claim7.holds Tryz.pinned (.plain (OpenSpec.ofChange filePlaysSpec)) filePlaysCard

/-- THE TIED CARD OF 'freightlaw6.FileCleans'. -/
def fileCleansCard : Claim7 := { stood := { row := fileCleansRow, standIns := [], harness := (true, "25788d57aa8e1db147963f63f82efde585205c6cadf5f4c55669db83217eae1a"), looks := true }, kinds := [], alts := [], laidByText := true, laidKinds := [.handle], laidTests := true, laidLooks := .later }
def FileCleansCardSaid : Prop := Claim7.holds Tryz.pinned (.plain (OpenSpec.ofChange fileCleansSpec)) fileCleansCard

/-- THE SECOND FORM's CARD OF 'freightlaw6.FilePlays'. -/
def filePlaysUptoCard : Claim7 := { stood := { row := filePlaysUptoRow, standIns := [], harness := (true, "25788d57aa8e1db147963f63f82efde585205c6cadf5f4c55669db83217eae1a"), looks := true }, kinds := [], alts := [], laidByText := true, laidKinds := [.handle], laidTests := true, laidLooks := .later }
def FilePlaysUptoCardSaid : Prop := Claim7.holds Tryz.pinned (.plain (OpenSpec.upto filePlaysSpec)) filePlaysUptoCard

/-- THE SECOND FORM's CARD OF 'freightlaw6.FileCleans'. -/
def fileCleansUptoCard : Claim7 := { stood := { row := fileCleansUptoRow, standIns := [], harness := (true, "25788d57aa8e1db147963f63f82efde585205c6cadf5f4c55669db83217eae1a"), looks := true }, kinds := [], alts := [], laidByText := true, laidKinds := [.handle], laidTests := true, laidLooks := .later }
def FileCleansUptoCardSaid : Prop := Claim7.holds Tryz.pinned (.plain (OpenSpec.upto fileCleansSpec)) fileCleansUptoCard
end Rows
end Go.Proofs.YtoiogpcmndlpcaaGreatDoor
