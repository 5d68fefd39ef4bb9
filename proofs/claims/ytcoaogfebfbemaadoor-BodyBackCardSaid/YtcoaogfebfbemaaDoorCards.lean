/-
  DERIVED. GIVEN WITH THE SEED: THE CARDS: each row of YtcoaogfebfbemaaDoorRows.lean that lists a variable, with what it lists TIED to the program's text (the seventh form; the later family's looks); each row that meets fmt, with fmt's text TOLD by the authors' own Lean function (tested against real Go, not proved from fmt's source: count such statements apart). THE CARD IS WHAT COUNTS. Prove the row's statement (the work); the ties are given (YtcoaogfebfbemaaDoorTie.lean); close each card by the builder's one call (the guide's Derived/Test/ToyasCard.lean, 'card_holds'). Laid BY PROGRAM, IN A SANDBOX (cutbox-door.mjs). By AI agents, Wed Nov 11 2026. No macro, syntax, notation, axiom, sorry.
-/
import Derived.Test.YtcoaogfebfbemaaDoorRows
import GoSem.ClaimSeven
namespace Go.Proofs.YtcoaogfebfbemaaDoor
namespace Rows

/-- THE TIED CARD OF 'platelayerlaw05.BodyTells'. -/
def bodyTellsCard : Claim7 := { stood := { row := bodyTellsRow, standIns := [], harness := (true, "644c923f84ffbbc0d798bceac8784ed2a9f30765cc0de495e1f75d46a25254aa"), looks := true }, kinds := [], alts := [], laidByText := true, laidKinds := [.handle], laidTests := true, laidLooks := .later }
def BodyTellsCardSaid : Prop := Claim7.holds Tryd.pinned (.plain (OpenSpec.ofChange bodyTellsSpec)) bodyTellsCard

/-- THE TIED CARD OF 'platelayerlaw05.BodyBack'. -/
def bodyBackCard : Claim7 := { stood := { row := bodyBackRow, standIns := [], harness := (true, "644c923f84ffbbc0d798bceac8784ed2a9f30765cc0de495e1f75d46a25254aa"), looks := true }, kinds := [], alts := [], laidByText := true, laidKinds := [.handle], laidTests := true, laidLooks := .later }
def BodyBackCardSaid : Prop := Claim7.holds Tryd.pinned (.plain (OpenSpec.ofChange bodyBackSpec)) bodyBackCard

/-- THE SECOND FORM's CARD OF 'platelayerlaw05.BodyTells'. -/
def bodyTellsUptoCard : Claim7 := { stood := { row := bodyTellsUptoRow, standIns := [], harness := (true, "644c923f84ffbbc0d798bceac8784ed2a9f30765cc0de495e1f75d46a25254aa"), looks := true }, kinds := [], alts := [], laidByText := true, laidKinds := [.handle], laidTests := true, laidLooks := .later }
def BodyTellsUptoCardSaid : Prop := Claim7.holds Tryd.pinned (.plain (OpenSpec.upto bodyTellsSpec)) bodyTellsUptoCard

/-- THE SECOND FORM's CARD OF 'platelayerlaw05.BodyBack'. -/
def bodyBackUptoCard : Claim7 := { stood := { row := bodyBackUptoRow, standIns := [], harness := (true, "644c923f84ffbbc0d798bceac8784ed2a9f30765cc0de495e1f75d46a25254aa"), looks := true }, kinds := [], alts := [], laidByText := true, laidKinds := [.handle], laidTests := true, laidLooks := .later }
def BodyBackUptoCardSaid : Prop := Claim7.holds Tryd.pinned (.plain (OpenSpec.upto bodyBackSpec)) bodyBackUptoCard
end Rows
end Go.Proofs.YtcoaogfebfbemaaDoor
