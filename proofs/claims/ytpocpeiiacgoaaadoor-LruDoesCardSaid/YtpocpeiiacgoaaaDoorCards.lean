/-
  DERIVED. GIVEN WITH THE SEED: THE CARDS: each row of YtpocpeiiacgoaaaDoorRows.lean that lists a variable, with what it lists TIED to the program's text (the seventh form; the later family's looks); each row that meets fmt, with fmt's text TOLD by the authors' own Lean function (tested against real Go, not proved from fmt's source: count such statements apart). THE CARD IS WHAT COUNTS. Prove the row's statement (the work); the ties are given (YtpocpeiiacgoaaaDoorTie.lean); close each card by the builder's one call (the guide's Derived/Test/ToyasCard.lean, 'card_holds'). Laid BY PROGRAM, IN A SANDBOX (cutbox-door.mjs). By AI agents, Wed Nov 11 2026. No macro, syntax, notation, axiom, sorry.
-/
import Derived.Test.YtpocpeiiacgoaaaDoorRows
import GoSem.ClaimSeven
namespace Go.Proofs.YtpocpeiiacgoaaaDoor
namespace Rows

/-- THE TIED CARD OF 'platelayerlaw08.LruDoes'. -/
def lruDoesCard : Claim7 := { stood := { row := lruDoesRow, standIns := [], harness := (true, "cc0b5e55b7f8bc3ba6bb271f30a53b97ce0e9df900cde058e56cc45137e2b93c"), looks := true }, kinds := [], alts := [], laidByText := true, laidKinds := [.handle], laidTests := true, laidLooks := .later }
def LruDoesCardSaid : Prop := Claim7.holds Tryd.pinned (.plain (OpenSpec.ofChange lruDoesSpec)) lruDoesCard

/-- THE SECOND FORM's CARD OF 'platelayerlaw08.LruDoes'. -/
def lruDoesUptoCard : Claim7 := { stood := { row := lruDoesUptoRow, standIns := [], harness := (true, "cc0b5e55b7f8bc3ba6bb271f30a53b97ce0e9df900cde058e56cc45137e2b93c"), looks := true }, kinds := [], alts := [], laidByText := true, laidKinds := [.handle], laidTests := true, laidLooks := .later }
def LruDoesUptoCardSaid : Prop := Claim7.holds Tryd.pinned (.plain (OpenSpec.upto lruDoesSpec)) lruDoesUptoCard
end Rows
end Go.Proofs.YtpocpeiiacgoaaaDoor
