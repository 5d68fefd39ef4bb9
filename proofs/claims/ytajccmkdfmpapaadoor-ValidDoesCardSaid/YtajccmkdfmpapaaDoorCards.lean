/-
  DERIVED. GIVEN WITH THE SEED: THE CARDS: each row of YtajccmkdfmpapaaDoorRows.lean that lists a variable, with what it lists TIED to the program's text (the seventh form; the later family's looks); each row that meets fmt, with fmt's text TOLD by the authors' own Lean function (tested against real Go, not proved from fmt's source: count such statements apart). THE CARD IS WHAT COUNTS. Prove the row's statement (the work); the ties are given (YtajccmkdfmpapaaDoorTie.lean); close each card by the builder's one call (the guide's Derived/Test/ToyasCard.lean, 'card_holds'). Laid BY PROGRAM, IN A SANDBOX (cutbox-door.mjs). By AI agents, Wed Nov 11 2026. No macro, syntax, notation, axiom, sorry.
-/
import Derived.Test.YtajccmkdfmpapaaDoorRows
import GoSem.ClaimSeven
namespace Go.Proofs.YtajccmkdfmpapaaDoor
namespace Rows

/-- THE TIED CARD OF 'platelayerlaw11.ValidDoes'. -/
def validDoesCard : Claim7 := { stood := { row := validDoesRow, standIns := [], harness := (true, "d709ac4c7c754878e4f018870ce17d168f655a691347981876f8070f7529d9bb"), looks := true }, kinds := [], alts := [], laidByText := true, laidKinds := [.handle], laidTests := true, laidLooks := .later }
def ValidDoesCardSaid : Prop := Claim7.holds Tryd.pinned (.plain (OpenSpec.ofChange validDoesSpec)) validDoesCard

/-- THE SECOND FORM's CARD OF 'platelayerlaw11.ValidDoes'. -/
def validDoesUptoCard : Claim7 := { stood := { row := validDoesUptoRow, standIns := [], harness := (true, "d709ac4c7c754878e4f018870ce17d168f655a691347981876f8070f7529d9bb"), looks := true }, kinds := [], alts := [], laidByText := true, laidKinds := [.handle], laidTests := true, laidLooks := .later }
def ValidDoesUptoCardSaid : Prop := Claim7.holds Tryd.pinned (.plain (OpenSpec.upto validDoesSpec)) validDoesUptoCard
end Rows
end Go.Proofs.YtajccmkdfmpapaaDoor
