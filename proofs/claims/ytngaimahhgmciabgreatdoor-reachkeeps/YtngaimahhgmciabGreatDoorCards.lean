/-
  DERIVED. GIVEN WITH THE SEED: THE CARDS: each row of YtngaimahhgmciabGreatDoorRows.lean that lists a variable, with what it lists TIED to the program's text (the seventh form; the later family's looks); each row that meets fmt, with fmt's text TOLD by the authors' own Lean function (tested against real Go, not proved from fmt's source: count such statements apart). THE CARD IS WHAT COUNTS. Prove the row's statement (the work); the ties are given (YtngaimahhgmciabGreatDoorTie.lean); close each card by the builder's one call (the guide's Derived/Test/ToyasCard.lean, 'card_holds'). Laid BY PROGRAM, IN A SANDBOX (cutbox-door.mjs). By AI agents, Wed Nov 11 2026. No macro, syntax, notation, axiom, sorry.
-/
import Derived.Test.YtngaimahhgmciabGreatDoorRows
import GoSem.ClaimSeven
namespace Go.Proofs.YtngaimahhgmciabGreatDoor
namespace Rows

/-- THE TIED CARD OF 'freightlaw9.ReachLeast'. -/
def reachLeastCard : Claim7 := { stood := { row := reachLeastRow, standIns := [], harness := (true, "29c383d93d774a1cf9e97a5c81003e361caa11a5fd9f56f24cbf01d8cd38c364"), looks := true }, kinds := [], alts := [], laidByText := true, laidKinds := [.data, .handle, .pinned], laidTests := true, laidLooks := .later }
def ReachLeastCardSaid : Prop := Claim7.holds Tryz.pinned (.plain (OpenSpec.ofChange reachLeastSpec)) reachLeastCard

/-- THE TIED CARD OF 'freightlaw9.ReachDeep'. -/
def reachDeepCard : Claim7 := { stood := { row := reachDeepRow, standIns := [], harness := (true, "29c383d93d774a1cf9e97a5c81003e361caa11a5fd9f56f24cbf01d8cd38c364"), looks := true }, kinds := [], alts := [], laidByText := true, laidKinds := [.data, .handle, .pinned], laidTests := true, laidLooks := .later }
def ReachDeepCardSaid : Prop := Claim7.holds Tryz.pinned (.plain (OpenSpec.ofChange reachDeepSpec)) reachDeepCard

/-- THE TIED CARD OF 'freightlaw9.ReachNothing'. -/
def reachNothingCard : Claim7 := { stood := { row := reachNothingRow, standIns := [], harness := (true, "29c383d93d774a1cf9e97a5c81003e361caa11a5fd9f56f24cbf01d8cd38c364"), looks := true }, kinds := [], alts := [], laidByText := true, laidKinds := [.data, .handle, .pinned], laidTests := true, laidLooks := .later }
def ReachNothingCardSaid : Prop := Claim7.holds Tryz.pinned (.plain (OpenSpec.ofChange reachNothingSpec)) reachNothingCard

/-- THE TIED CARD OF 'freightlaw9.ReachKeeps'. -/
def reachKeepsCard : Claim7 := { stood := { row := reachKeepsRow, standIns := [], harness := (true, "29c383d93d774a1cf9e97a5c81003e361caa11a5fd9f56f24cbf01d8cd38c364"), looks := true }, kinds := [], alts := [], laidByText := true, laidKinds := [.data, .handle, .pinned], laidTests := true, laidLooks := .later }
def ReachKeepsCardSaid : Prop := Claim7.holds Tryz.pinned (.plain (OpenSpec.ofChange reachKeepsSpec)) reachKeepsCard

/-- THE SECOND FORM's CARD OF 'freightlaw9.ReachLeast'. -/
def reachLeastUptoCard : Claim7 := { stood := { row := reachLeastUptoRow, standIns := [], harness := (true, "29c383d93d774a1cf9e97a5c81003e361caa11a5fd9f56f24cbf01d8cd38c364"), looks := true }, kinds := [], alts := [], laidByText := true, laidKinds := [.data, .handle, .pinned], laidTests := true, laidLooks := .later }
def ReachLeastUptoCardSaid : Prop := Claim7.holds Tryz.pinned (.plain (OpenSpec.upto reachLeastSpec)) reachLeastUptoCard

/-- THE SECOND FORM's CARD OF 'freightlaw9.ReachDeep'. -/
def reachDeepUptoCard : Claim7 := { stood := { row := reachDeepUptoRow, standIns := [], harness := (true, "29c383d93d774a1cf9e97a5c81003e361caa11a5fd9f56f24cbf01d8cd38c364"), looks := true }, kinds := [], alts := [], laidByText := true, laidKinds := [.data, .handle, .pinned], laidTests := true, laidLooks := .later }
def ReachDeepUptoCardSaid : Prop := Claim7.holds Tryz.pinned (.plain (OpenSpec.upto reachDeepSpec)) reachDeepUptoCard

/-- THE SECOND FORM's CARD OF 'freightlaw9.ReachNothing'. -/
def reachNothingUptoCard : Claim7 := { stood := { row := reachNothingUptoRow, standIns := [], harness := (true, "29c383d93d774a1cf9e97a5c81003e361caa11a5fd9f56f24cbf01d8cd38c364"), looks := true }, kinds := [], alts := [], laidByText := true, laidKinds := [.data, .handle, .pinned], laidTests := true, laidLooks := .later }
def ReachNothingUptoCardSaid : Prop := Claim7.holds Tryz.pinned (.plain (OpenSpec.upto reachNothingSpec)) reachNothingUptoCard

/-- THE SECOND FORM's CARD OF 'freightlaw9.ReachKeeps'. -/
def reachKeepsUptoCard : Claim7 := { stood := { row := reachKeepsUptoRow, standIns := [], harness := (true, "29c383d93d774a1cf9e97a5c81003e361caa11a5fd9f56f24cbf01d8cd38c364"), looks := true }, kinds := [], alts := [], laidByText := true, laidKinds := [.data, .handle, .pinned], laidTests := true, laidLooks := .later }
def ReachKeepsUptoCardSaid : Prop := Claim7.holds Tryz.pinned (.plain (OpenSpec.upto reachKeepsSpec)) reachKeepsUptoCard
end Rows
end Go.Proofs.YtngaimahhgmciabGreatDoor
