/-
  DERIVED. GIVEN WITH THE SEED: THE CARDS: each row of YtnkkifnglkajfaaDoorRows.lean that lists a variable, with what it lists TIED to the program's text (the seventh form; the later family's looks); each row that meets fmt, with fmt's text TOLD by the authors' own Lean function (tested against real Go, not proved from fmt's source: count such statements apart). THE CARD IS WHAT COUNTS. Prove the row's statement (the work); the ties are given (YtnkkifnglkajfaaDoorTie.lean); close each card by the builder's one call (the guide's Derived/Test/ToyasCard.lean, 'card_holds'). Laid BY PROGRAM, IN A SANDBOX (cutbox-door.mjs). By AI agents, Wed Nov 11 2026. No macro, syntax, notation, axiom, sorry.
-/
import Derived.Test.YtnkkifnglkajfaaDoorRows
import GoSem.ClaimSeven
namespace Go.Proofs.YtnkkifnglkajfaaDoor
namespace Rows

/-- THE TIED CARD OF 'platelayerlaw04.HeadTells'. -/
def headTellsCard : Claim7 := { stood := { row := headTellsRow, standIns := [], harness := (true, "9f115faa2530c976143a340edc78e01f3feed4dfba3a7f14e59e9ca52ab95d16"), looks := true }, kinds := [], alts := [], laidByText := true, laidKinds := [.handle], laidTests := true, laidLooks := .later }
def HeadTellsCardSaid : Prop := Claim7.holds Tryd.pinned (.plain (OpenSpec.ofChange headTellsSpec)) headTellsCard

/-- THE TIED CARD OF 'platelayerlaw04.HeadBack'. -/
def headBackCard : Claim7 := { stood := { row := headBackRow, standIns := [], harness := (true, "9f115faa2530c976143a340edc78e01f3feed4dfba3a7f14e59e9ca52ab95d16"), looks := true }, kinds := [], alts := [], laidByText := true, laidKinds := [.handle], laidTests := true, laidLooks := .later }
def HeadBackCardSaid : Prop := Claim7.holds Tryd.pinned (.plain (OpenSpec.ofChange headBackSpec)) headBackCard

/-- THE TIED CARD OF 'platelayerlaw04.HeadChanged'. -/
def headChangedCard : Claim7 := { stood := { row := headChangedRow, standIns := [], harness := (true, "9f115faa2530c976143a340edc78e01f3feed4dfba3a7f14e59e9ca52ab95d16"), looks := true }, kinds := [], alts := [], laidByText := true, laidKinds := [.handle], laidTests := true, laidLooks := .later }
def HeadChangedCardSaid : Prop := Claim7.holds Tryd.pinned (.plain (OpenSpec.ofChange headChangedSpec)) headChangedCard

/-- THE SECOND FORM's CARD OF 'platelayerlaw04.HeadTells'. -/
def headTellsUptoCard : Claim7 := { stood := { row := headTellsUptoRow, standIns := [], harness := (true, "9f115faa2530c976143a340edc78e01f3feed4dfba3a7f14e59e9ca52ab95d16"), looks := true }, kinds := [], alts := [], laidByText := true, laidKinds := [.handle], laidTests := true, laidLooks := .later }
def HeadTellsUptoCardSaid : Prop := Claim7.holds Tryd.pinned (.plain (OpenSpec.upto headTellsSpec)) headTellsUptoCard

/-- THE SECOND FORM's CARD OF 'platelayerlaw04.HeadBack'. -/
def headBackUptoCard : Claim7 := { stood := { row := headBackUptoRow, standIns := [], harness := (true, "9f115faa2530c976143a340edc78e01f3feed4dfba3a7f14e59e9ca52ab95d16"), looks := true }, kinds := [], alts := [], laidByText := true, laidKinds := [.handle], laidTests := true, laidLooks := .later }
def HeadBackUptoCardSaid : Prop := Claim7.holds Tryd.pinned (.plain (OpenSpec.upto headBackSpec)) headBackUptoCard

/-- THE SECOND FORM's CARD OF 'platelayerlaw04.HeadChanged'. -/
def headChangedUptoCard : Claim7 := { stood := { row := headChangedUptoRow, standIns := [], harness := (true, "9f115faa2530c976143a340edc78e01f3feed4dfba3a7f14e59e9ca52ab95d16"), looks := true }, kinds := [], alts := [], laidByText := true, laidKinds := [.handle], laidTests := true, laidLooks := .later }
def HeadChangedUptoCardSaid : Prop := Claim7.holds Tryd.pinned (.plain (OpenSpec.upto headChangedSpec)) headChangedUptoCard
end Rows
end Go.Proofs.YtnkkifnglkajfaaDoor
