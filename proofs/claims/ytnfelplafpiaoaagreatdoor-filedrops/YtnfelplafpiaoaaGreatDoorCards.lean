/-
  DERIVED. GIVEN WITH THE SEED: THE CARDS: each row of YtnfelplafpiaoaaGreatDoorRows.lean that lists a variable, with what it lists TIED to the program's text (the seventh form; the later family's looks); each row that meets fmt, with fmt's text TOLD by the authors' own Lean function (tested against real Go, not proved from fmt's source: count such statements apart). THE CARD IS WHAT COUNTS. Prove the row's statement (the work); the ties are given (YtnfelplafpiaoaaGreatDoorTie.lean); close each card by the builder's one call (the guide's Derived/Test/ToyasCard.lean, 'card_holds'). Laid BY PROGRAM, IN A SANDBOX (cutbox-door.mjs). By AI agents, Wed Nov 11 2026. No macro, syntax, notation, axiom, sorry.
-/
import Derived.Test.YtnfelplafpiaoaaGreatDoorRows
import GoSem.ClaimSeven
namespace Go.Proofs.YtnfelplafpiaoaaGreatDoor
namespace Rows

/-- THE TIED CARD OF 'freightlaw6.FilePlays'. -/
def filePlaysCard : Claim7 := { stood := { row := filePlaysRow, standIns := [], harness := (true, "d314ecd3f52b0b286d6aa1308e6e4bfaf3f411b8cc4ca65513e1b565771fc8e9"), looks := true }, kinds := [], alts := [], laidByText := true, laidKinds := [.handle], laidTests := true, laidLooks := .later }
def FilePlaysCardSaid : Prop := Claim7.holds Tryz.pinned (.plain (OpenSpec.ofChange filePlaysSpec)) filePlaysCard

/-- THE TIED CARD OF 'freightlaw6.FilePuts'. -/
def filePutsCard : Claim7 := { stood := { row := filePutsRow, standIns := [], harness := (true, "d314ecd3f52b0b286d6aa1308e6e4bfaf3f411b8cc4ca65513e1b565771fc8e9"), looks := true }, kinds := [], alts := [], laidByText := true, laidKinds := [.handle], laidTests := true, laidLooks := .later }
def FilePutsCardSaid : Prop := Claim7.holds Tryz.pinned (.plain (OpenSpec.ofChange filePutsSpec)) filePutsCard

/-- THE TIED CARD OF 'freightlaw6.FileCut'. -/
def fileCutCard : Claim7 := { stood := { row := fileCutRow, standIns := [], harness := (true, "d314ecd3f52b0b286d6aa1308e6e4bfaf3f411b8cc4ca65513e1b565771fc8e9"), looks := true }, kinds := [], alts := [], laidByText := true, laidKinds := [.handle], laidTests := true, laidLooks := .later }
def FileCutCardSaid : Prop := Claim7.holds Tryz.pinned (.plain (OpenSpec.ofChange fileCutSpec)) fileCutCard

/-- THE TIED CARD OF 'freightlaw6.FileDrops'. -/
def fileDropsCard : Claim7 := { stood := { row := fileDropsRow, standIns := [], harness := (true, "d314ecd3f52b0b286d6aa1308e6e4bfaf3f411b8cc4ca65513e1b565771fc8e9"), looks := true }, kinds := [], alts := [], laidByText := true, laidKinds := [.handle], laidTests := true, laidLooks := .later }
def FileDropsCardSaid : Prop := Claim7.holds Tryz.pinned (.plain (OpenSpec.ofChange fileDropsSpec)) fileDropsCard

/-- THE TIED CARD OF 'freightlaw6.FileCleans'. -/
def fileCleansCard : Claim7 := { stood := { row := fileCleansRow, standIns := [], harness := (true, "d314ecd3f52b0b286d6aa1308e6e4bfaf3f411b8cc4ca65513e1b565771fc8e9"), looks := true }, kinds := [], alts := [], laidByText := true, laidKinds := [.handle], laidTests := true, laidLooks := .later }
def FileCleansCardSaid : Prop := Claim7.holds Tryz.pinned (.plain (OpenSpec.ofChange fileCleansSpec)) fileCleansCard

/-- THE TIED CARD OF 'freightlaw6.FileNothing'. -/
def fileNothingCard : Claim7 := { stood := { row := fileNothingRow, standIns := [], harness := (true, "d314ecd3f52b0b286d6aa1308e6e4bfaf3f411b8cc4ca65513e1b565771fc8e9"), looks := true }, kinds := [], alts := [], laidByText := true, laidKinds := [.handle], laidTests := true, laidLooks := .later }
def FileNothingCardSaid : Prop := Claim7.holds Tryz.pinned (.plain (OpenSpec.ofChange fileNothingSpec)) fileNothingCard

/-- THE SECOND FORM's CARD OF 'freightlaw6.FilePlays'. -/
def filePlaysUptoCard : Claim7 := { stood := { row := filePlaysUptoRow, standIns := [], harness := (true, "d314ecd3f52b0b286d6aa1308e6e4bfaf3f411b8cc4ca65513e1b565771fc8e9"), looks := true }, kinds := [], alts := [], laidByText := true, laidKinds := [.handle], laidTests := true, laidLooks := .later }
def FilePlaysUptoCardSaid : Prop := Claim7.holds Tryz.pinned (.plain (OpenSpec.upto filePlaysSpec)) filePlaysUptoCard

/-- THE SECOND FORM's CARD OF 'freightlaw6.FilePuts'. -/
def filePutsUptoCard : Claim7 := { stood := { row := filePutsUptoRow, standIns := [], harness := (true, "d314ecd3f52b0b286d6aa1308e6e4bfaf3f411b8cc4ca65513e1b565771fc8e9"), looks := true }, kinds := [], alts := [], laidByText := true, laidKinds := [.handle], laidTests := true, laidLooks := .later }
def FilePutsUptoCardSaid : Prop := Claim7.holds Tryz.pinned (.plain (OpenSpec.upto filePutsSpec)) filePutsUptoCard

/-- THE SECOND FORM's CARD OF 'freightlaw6.FileCut'. -/
def fileCutUptoCard : Claim7 := { stood := { row := fileCutUptoRow, standIns := [], harness := (true, "d314ecd3f52b0b286d6aa1308e6e4bfaf3f411b8cc4ca65513e1b565771fc8e9"), looks := true }, kinds := [], alts := [], laidByText := true, laidKinds := [.handle], laidTests := true, laidLooks := .later }
def FileCutUptoCardSaid : Prop := Claim7.holds Tryz.pinned (.plain (OpenSpec.upto fileCutSpec)) fileCutUptoCard

/-- THE SECOND FORM's CARD OF 'freightlaw6.FileDrops'. -/
def fileDropsUptoCard : Claim7 := { stood := { row := fileDropsUptoRow, standIns := [], harness := (true, "d314ecd3f52b0b286d6aa1308e6e4bfaf3f411b8cc4ca65513e1b565771fc8e9"), looks := true }, kinds := [], alts := [], laidByText := true, laidKinds := [.handle], laidTests := true, laidLooks := .later }
def FileDropsUptoCardSaid : Prop := Claim7.holds Tryz.pinned (.plain (OpenSpec.upto fileDropsSpec)) fileDropsUptoCard

/-- THE SECOND FORM's CARD OF 'freightlaw6.FileCleans'. -/
def fileCleansUptoCard : Claim7 := { stood := { row := fileCleansUptoRow, standIns := [], harness := (true, "d314ecd3f52b0b286d6aa1308e6e4bfaf3f411b8cc4ca65513e1b565771fc8e9"), looks := true }, kinds := [], alts := [], laidByText := true, laidKinds := [.handle], laidTests := true, laidLooks := .later }
def FileCleansUptoCardSaid : Prop := Claim7.holds Tryz.pinned (.plain (OpenSpec.upto fileCleansSpec)) fileCleansUptoCard

/-- THE SECOND FORM's CARD OF 'freightlaw6.FileNothing'. -/
def fileNothingUptoCard : Claim7 := { stood := { row := fileNothingUptoRow, standIns := [], harness := (true, "d314ecd3f52b0b286d6aa1308e6e4bfaf3f411b8cc4ca65513e1b565771fc8e9"), looks := true }, kinds := [], alts := [], laidByText := true, laidKinds := [.handle], laidTests := true, laidLooks := .later }
def FileNothingUptoCardSaid : Prop := Claim7.holds Tryz.pinned (.plain (OpenSpec.upto fileNothingSpec)) fileNothingUptoCard
end Rows
end Go.Proofs.YtnfelplafpiaoaaGreatDoor
