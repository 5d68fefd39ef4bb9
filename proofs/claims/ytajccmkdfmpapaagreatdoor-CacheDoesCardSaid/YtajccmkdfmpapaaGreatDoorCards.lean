/-
  DERIVED. GIVEN WITH THE SEED: THE CARDS: each row of YtajccmkdfmpapaaGreatDoorRows.lean that lists a variable, with what it lists TIED to the program's text (the seventh form; the later family's looks); each row that meets fmt, with fmt's text TOLD by the authors' own Lean function (tested against real Go, not proved from fmt's source: count such statements apart). THE CARD IS WHAT COUNTS. Prove the row's statement (the work); the ties are given (YtajccmkdfmpapaaGreatDoorTie.lean); close each card by the builder's one call (the guide's Derived/Test/ToyasCard.lean, 'card_holds'). Laid BY PROGRAM, IN A SANDBOX (cutbox-door.mjs). By AI agents, Wed Nov 11 2026. No macro, syntax, notation, axiom, sorry.
-/
import Derived.Test.YtajccmkdfmpapaaGreatDoorRows
import GoSem.ClaimSeven
namespace Go.Proofs.YtajccmkdfmpapaaGreatDoor
namespace Rows

/-- THE TIED CARD OF 'platelayerlaw10.CacheDoes'. -/
def cacheDoesCard : Claim7 := { stood := { row := cacheDoesRow, standIns := [], harness := (true, "6a1b5474ebec7653c9287350b770e83517dc4680117d2c0ec4f64b79436bbc52"), looks := true }, kinds := [], alts := [], laidByText := true, laidKinds := [.handle], laidTests := true, laidLooks := .later }
def CacheDoesCardSaid : Prop := Claim7.holds Tryz.pinned (.plain (OpenSpec.ofChange cacheDoesSpec)) cacheDoesCard

/-- THE SECOND FORM's CARD OF 'platelayerlaw10.CacheDoes'. -/
def cacheDoesUptoCard : Claim7 := { stood := { row := cacheDoesUptoRow, standIns := [], harness := (true, "6a1b5474ebec7653c9287350b770e83517dc4680117d2c0ec4f64b79436bbc52"), looks := true }, kinds := [], alts := [], laidByText := true, laidKinds := [.handle], laidTests := true, laidLooks := .later }
def CacheDoesUptoCardSaid : Prop := Claim7.holds Tryz.pinned (.plain (OpenSpec.upto cacheDoesSpec)) cacheDoesUptoCard
end Rows
end Go.Proofs.YtajccmkdfmpapaaGreatDoor
