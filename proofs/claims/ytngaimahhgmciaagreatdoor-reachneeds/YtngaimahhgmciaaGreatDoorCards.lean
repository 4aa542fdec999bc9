/-
  DERIVED. GIVEN WITH THE SEED: THE CARDS: each row of YtngaimahhgmciaaGreatDoorRows.lean that lists a variable, with what it lists TIED to the program's text (the seventh form; the later family's looks); each row that meets fmt, with fmt's text TOLD by the authors' own Lean function (tested against real Go, not proved from fmt's source: count such statements apart). THE CARD IS WHAT COUNTS. Prove the row's statement (the work); the ties are given (YtngaimahhgmciaaGreatDoorTie.lean); close each card by the builder's one call (the guide's Derived/Test/ToyasCard.lean, 'card_holds'). Laid BY PROGRAM, IN A SANDBOX (cutbox-door.mjs). By AI agents, Wed Nov 11 2026. No macro, syntax, notation, axiom, sorry.
-/
import Derived.Test.YtngaimahhgmciaaGreatDoorRows
import GoSem.ClaimSeven
namespace Go.Proofs.YtngaimahhgmciaaGreatDoor
namespace Rows

/-- THE TIED CARD OF 'freightlaw9.ReachNeeds'. -/
def reachNeedsCard : Claim7 := { stood := { row := reachNeedsRow, standIns := [], harness := (true, "6a9192386abd1566280ff199d0d85c8df483fb08c5a8b0acc548dbc3e0e29409"), looks := true }, kinds := [], alts := [], laidByText := true, laidKinds := [.data, .handle, .pinned], laidTests := true, laidLooks := .later }
def ReachNeedsCardSaid : Prop := Claim7.holds Tryz.pinned (.plain (OpenSpec.ofChange reachNeedsSpec)) reachNeedsCard

/-- THE TIED CARD OF 'freightlaw9.ReachLacks'. -/
def reachLacksCard : Claim7 := { stood := { row := reachLacksRow, standIns := [], harness := (true, "6a9192386abd1566280ff199d0d85c8df483fb08c5a8b0acc548dbc3e0e29409"), looks := true }, kinds := [], alts := [], laidByText := true, laidKinds := [.data, .handle, .pinned], laidTests := true, laidLooks := .later }
def ReachLacksCardSaid : Prop := Claim7.holds Tryz.pinned (.plain (OpenSpec.ofChange reachLacksSpec)) reachLacksCard

/-- THE TIED CARD OF 'freightlaw9.ReachMaps'. -/
def reachMapsCard : Claim7 := { stood := { row := reachMapsRow, standIns := [], harness := (true, "6a9192386abd1566280ff199d0d85c8df483fb08c5a8b0acc548dbc3e0e29409"), looks := true }, kinds := [], alts := [], laidByText := true, laidKinds := [.data, .handle, .pinned], laidTests := true, laidLooks := .later }
def ReachMapsCardSaid : Prop := Claim7.holds Tryz.pinned (.plain (OpenSpec.ofChange reachMapsSpec)) reachMapsCard

/-- THE TIED CARD OF 'freightlaw9.ReachCloses'. -/
def reachClosesCard : Claim7 := { stood := { row := reachClosesRow, standIns := [], harness := (true, "6a9192386abd1566280ff199d0d85c8df483fb08c5a8b0acc548dbc3e0e29409"), looks := true }, kinds := [], alts := [], laidByText := true, laidKinds := [.data, .handle, .pinned], laidTests := true, laidLooks := .later }
def ReachClosesCardSaid : Prop := Claim7.holds Tryz.pinned (.plain (OpenSpec.ofChange reachClosesSpec)) reachClosesCard

/-- THE TIED CARD OF 'freightlaw9.ReachOrders'. -/
def reachOrdersCard : Claim7 := { stood := { row := reachOrdersRow, standIns := [], harness := (true, "6a9192386abd1566280ff199d0d85c8df483fb08c5a8b0acc548dbc3e0e29409"), looks := true }, kinds := [], alts := [], laidByText := true, laidKinds := [.data, .handle, .pinned], laidTests := true, laidLooks := .later }
def ReachOrdersCardSaid : Prop := Claim7.holds Tryz.pinned (.plain (OpenSpec.ofChange reachOrdersSpec)) reachOrdersCard

/-- THE TIED CARD OF 'freightlaw9.ReachJoins'. -/
def reachJoinsCard : Claim7 := { stood := { row := reachJoinsRow, standIns := [], harness := (true, "6a9192386abd1566280ff199d0d85c8df483fb08c5a8b0acc548dbc3e0e29409"), looks := true }, kinds := [], alts := [], laidByText := true, laidKinds := [.data, .handle, .pinned], laidTests := true, laidLooks := .later }
def ReachJoinsCardSaid : Prop := Claim7.holds Tryz.pinned (.plain (OpenSpec.ofChange reachJoinsSpec)) reachJoinsCard

/-- THE SECOND FORM's CARD OF 'freightlaw9.ReachNeeds'. -/
def reachNeedsUptoCard : Claim7 := { stood := { row := reachNeedsUptoRow, standIns := [], harness := (true, "6a9192386abd1566280ff199d0d85c8df483fb08c5a8b0acc548dbc3e0e29409"), looks := true }, kinds := [], alts := [], laidByText := true, laidKinds := [.data, .handle, .pinned], laidTests := true, laidLooks := .later }
def ReachNeedsUptoCardSaid : Prop := Claim7.holds Tryz.pinned (.plain (OpenSpec.upto reachNeedsSpec)) reachNeedsUptoCard

/-- THE SECOND FORM's CARD OF 'freightlaw9.ReachLacks'. -/
def reachLacksUptoCard : Claim7 := { stood := { row := reachLacksUptoRow, standIns := [], harness := (true, "6a9192386abd1566280ff199d0d85c8df483fb08c5a8b0acc548dbc3e0e29409"), looks := true }, kinds := [], alts := [], laidByText := true, laidKinds := [.data, .handle, .pinned], laidTests := true, laidLooks := .later }
def ReachLacksUptoCardSaid : Prop := Claim7.holds Tryz.pinned (.plain (OpenSpec.upto reachLacksSpec)) reachLacksUptoCard

/-- THE SECOND FORM's CARD OF 'freightlaw9.ReachMaps'. -/
def reachMapsUptoCard : Claim7 := { stood := { row := reachMapsUptoRow, standIns := [], harness := (true, "6a9192386abd1566280ff199d0d85c8df483fb08c5a8b0acc548dbc3e0e29409"), looks := true }, kinds := [], alts := [], laidByText := true, laidKinds := [.data, .handle, .pinned], laidTests := true, laidLooks := .later }
def ReachMapsUptoCardSaid : Prop := Claim7.holds Tryz.pinned (.plain (OpenSpec.upto reachMapsSpec)) reachMapsUptoCard

/-- THE SECOND FORM's CARD OF 'freightlaw9.ReachCloses'. -/
def reachClosesUptoCard : Claim7 := { stood := { row := reachClosesUptoRow, standIns := [], harness := (true, "6a9192386abd1566280ff199d0d85c8df483fb08c5a8b0acc548dbc3e0e29409"), looks := true }, kinds := [], alts := [], laidByText := true, laidKinds := [.data, .handle, .pinned], laidTests := true, laidLooks := .later }
def ReachClosesUptoCardSaid : Prop := Claim7.holds Tryz.pinned (.plain (OpenSpec.upto reachClosesSpec)) reachClosesUptoCard

/-- THE SECOND FORM's CARD OF 'freightlaw9.ReachOrders'. -/
def reachOrdersUptoCard : Claim7 := { stood := { row := reachOrdersUptoRow, standIns := [], harness := (true, "6a9192386abd1566280ff199d0d85c8df483fb08c5a8b0acc548dbc3e0e29409"), looks := true }, kinds := [], alts := [], laidByText := true, laidKinds := [.data, .handle, .pinned], laidTests := true, laidLooks := .later }
def ReachOrdersUptoCardSaid : Prop := Claim7.holds Tryz.pinned (.plain (OpenSpec.upto reachOrdersSpec)) reachOrdersUptoCard

/-- THE SECOND FORM's CARD OF 'freightlaw9.ReachJoins'. -/
def reachJoinsUptoCard : Claim7 := { stood := { row := reachJoinsUptoRow, standIns := [], harness := (true, "6a9192386abd1566280ff199d0d85c8df483fb08c5a8b0acc548dbc3e0e29409"), looks := true }, kinds := [], alts := [], laidByText := true, laidKinds := [.data, .handle, .pinned], laidTests := true, laidLooks := .later }
def ReachJoinsUptoCardSaid : Prop := Claim7.holds Tryz.pinned (.plain (OpenSpec.upto reachJoinsSpec)) reachJoinsUptoCard
end Rows
end Go.Proofs.YtngaimahhgmciaaGreatDoor
