/-
  DERIVED. GIVEN WITH THE SEED: THE CARDS: each row of YteoohafadijkmaaDoorRows.lean that lists a variable, with what it lists TIED to the program's text (the seventh form; the later family's looks); each row that meets fmt, with fmt's text TOLD by the authors' own Lean function (tested against real Go, not proved from fmt's source: count such statements apart). THE CARD IS WHAT COUNTS. Prove the row's statement (the work); the ties are given (YteoohafadijkmaaDoorTie.lean); close each card by the builder's one call (the guide's Derived/Test/ToyasCard.lean, 'card_holds'). Laid BY PROGRAM, IN A SANDBOX (cutbox-door.mjs). By AI agents, Wed Nov 11 2026. No macro, syntax, notation, axiom, sorry.
-/
import Derived.Test.YteoohafadijkmaaDoorRows
import GoSem.ClaimSeven
namespace Go.Proofs.YteoohafadijkmaaDoor
namespace Rows

/-- THE TIED CARD OF 'platelayerlaw13.ZonesDo'. -/
def zonesDoCard : Claim7 := { stood := { row := zonesDoRow, standIns := [], harness := (true, "353041f96bb4c8f01240a36592bf762bb12fb0e5a6ba04788807c9398045827c"), looks := true }, kinds := [], alts := [], laidByText := true, laidKinds := [.handle], laidTests := true, laidLooks := .later }
def ZonesDoCardSaid : Prop := Claim7.holds Tryd.pinned (.plain (OpenSpec.ofChange zonesDoSpec)) zonesDoCard

/-- THE SECOND FORM's CARD OF 'platelayerlaw13.ZonesDo'. -/
def zonesDoUptoCard : Claim7 := { stood := { row := zonesDoUptoRow, standIns := [], harness := (true, "353041f96bb4c8f01240a36592bf762bb12fb0e5a6ba04788807c9398045827c"), looks := true }, kinds := [], alts := [], laidByText := true, laidKinds := [.handle], laidTests := true, laidLooks := .later }
def ZonesDoUptoCardSaid : Prop := Claim7.holds Tryd.pinned (.plain (OpenSpec.upto zonesDoSpec)) zonesDoUptoCard
end Rows
end Go.Proofs.YteoohafadijkmaaDoor
