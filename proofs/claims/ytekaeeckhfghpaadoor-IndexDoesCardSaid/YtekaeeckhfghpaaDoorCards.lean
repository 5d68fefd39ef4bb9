/-
  DERIVED. GIVEN WITH THE SEED: THE CARDS: each row of YtekaeeckhfghpaaDoorRows.lean that lists a variable, with what it lists TIED to the program's text (the seventh form; the later family's looks); each row that meets fmt, with fmt's text TOLD by the authors' own Lean function (tested against real Go, not proved from fmt's source: count such statements apart). THE CARD IS WHAT COUNTS. Prove the row's statement (the work); the ties are given (YtekaeeckhfghpaaDoorTie.lean); close each card by the builder's one call (the guide's Derived/Test/ToyasCard.lean, 'card_holds'). Laid BY PROGRAM, IN A SANDBOX (cutbox-door.mjs). By AI agents, Wed Nov 11 2026. No macro, syntax, notation, axiom, sorry.
-/
import Derived.Test.YtekaeeckhfghpaaDoorRows
import GoSem.ClaimSeven
namespace Go.Proofs.YtekaeeckhfghpaaDoor
namespace Rows

/-- THE TIED CARD OF 'platelayerlaw09.IndexDoes'. -/
def indexDoesCard : Claim7 := { stood := { row := indexDoesRow, standIns := [], harness := (true, "2529d96129eb4ac955a871a52d184679b12bde96cc3dafc5692bc16054cce135"), looks := true }, kinds := [], alts := [], laidByText := true, laidKinds := [.handle], laidTests := true, laidLooks := .later }
def IndexDoesCardSaid : Prop := Claim7.holds Tryd.pinned (.plain (OpenSpec.ofChange indexDoesSpec)) indexDoesCard

/-- THE SECOND FORM's CARD OF 'platelayerlaw09.IndexDoes'. -/
def indexDoesUptoCard : Claim7 := { stood := { row := indexDoesUptoRow, standIns := [], harness := (true, "2529d96129eb4ac955a871a52d184679b12bde96cc3dafc5692bc16054cce135"), looks := true }, kinds := [], alts := [], laidByText := true, laidKinds := [.handle], laidTests := true, laidLooks := .later }
def IndexDoesUptoCardSaid : Prop := Claim7.holds Tryd.pinned (.plain (OpenSpec.upto indexDoesSpec)) indexDoesUptoCard
end Rows
end Go.Proofs.YtekaeeckhfghpaaDoor
