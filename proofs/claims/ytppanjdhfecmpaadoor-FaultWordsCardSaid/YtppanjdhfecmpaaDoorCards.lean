/-
  DERIVED. GIVEN WITH THE SEED: THE CARDS: each row of YtppanjdhfecmpaaDoorRows.lean that lists a variable, with what it lists TIED to the program's text (the seventh form; the later family's looks); each row that meets fmt, with fmt's text TOLD by the authors' own Lean function (tested against real Go, not proved from fmt's source: count such statements apart). THE CARD IS WHAT COUNTS. Prove the row's statement (the work); the ties are given (YtppanjdhfecmpaaDoorTie.lean); close each card by the builder's one call (the guide's Derived/Test/ToyasCard.lean, 'card_holds'). Laid BY PROGRAM, IN A SANDBOX (cutbox-door.mjs). By AI agents, Wed Nov 11 2026. No macro, syntax, notation, axiom, sorry.
-/
import Derived.Test.YtppanjdhfecmpaaDoorRows
import GoSem.ClaimSeven
namespace Go.Proofs.YtppanjdhfecmpaaDoor
namespace Rows

/-- THE TIED CARD OF 'platelayerlaw01.FaultTells'. -/
def faultTellsCard : Claim7 := { stood := { row := faultTellsRow, standIns := [], harness := (true, "45fe58fe71ab7732b0074800fef3b815df9e1d9f1812ffe7ce3b35205fd41c61"), looks := true }, kinds := [], alts := [], laidByText := true, laidKinds := [.handle], laidTests := true, laidLooks := .later }
def FaultTellsCardSaid : Prop := Claim7.holds Tryd.pinned (.plain (OpenSpec.ofChange faultTellsSpec)) faultTellsCard

/-- THE TIED CARD OF 'platelayerlaw01.FaultWraps'. -/
def faultWrapsCard : Claim7 := { stood := { row := faultWrapsRow, standIns := [], harness := (true, "45fe58fe71ab7732b0074800fef3b815df9e1d9f1812ffe7ce3b35205fd41c61"), looks := true }, kinds := [], alts := [], laidByText := true, laidKinds := [.handle], laidTests := true, laidLooks := .later }
def FaultWrapsCardSaid : Prop := Claim7.holds Tryd.pinned (.plain (OpenSpec.ofChange faultWrapsSpec)) faultWrapsCard

/-- THE TIED CARD OF 'platelayerlaw01.FaultOnce'. -/
def faultOnceCard : Claim7 := { stood := { row := faultOnceRow, standIns := [], harness := (true, "45fe58fe71ab7732b0074800fef3b815df9e1d9f1812ffe7ce3b35205fd41c61"), looks := true }, kinds := [], alts := [], laidByText := true, laidKinds := [.handle], laidTests := true, laidLooks := .later }
def FaultOnceCardSaid : Prop := Claim7.holds Tryd.pinned (.plain (OpenSpec.ofChange faultOnceSpec)) faultOnceCard

/-- THE TIED CARD OF 'platelayerlaw01.FaultWords'. -/
def faultWordsCard : Claim7 := { stood := { row := faultWordsRow, standIns := [], harness := (true, "45fe58fe71ab7732b0074800fef3b815df9e1d9f1812ffe7ce3b35205fd41c61"), looks := true }, kinds := [], alts := [], laidByText := true, laidKinds := [.data, .data, .data, .handle], laidTests := true, laidLooks := .later }
def FaultWordsCardSaid : Prop := Claim7.holds Tryd.pinned (.plain (OpenSpec.ofChange faultWordsSpec)) faultWordsCard

/-- THE SECOND FORM's CARD OF 'platelayerlaw01.FaultTells'. -/
def faultTellsUptoCard : Claim7 := { stood := { row := faultTellsUptoRow, standIns := [], harness := (true, "45fe58fe71ab7732b0074800fef3b815df9e1d9f1812ffe7ce3b35205fd41c61"), looks := true }, kinds := [], alts := [], laidByText := true, laidKinds := [.handle], laidTests := true, laidLooks := .later }
def FaultTellsUptoCardSaid : Prop := Claim7.holds Tryd.pinned (.plain (OpenSpec.upto faultTellsSpec)) faultTellsUptoCard

/-- THE SECOND FORM's CARD OF 'platelayerlaw01.FaultWraps'. -/
def faultWrapsUptoCard : Claim7 := { stood := { row := faultWrapsUptoRow, standIns := [], harness := (true, "45fe58fe71ab7732b0074800fef3b815df9e1d9f1812ffe7ce3b35205fd41c61"), looks := true }, kinds := [], alts := [], laidByText := true, laidKinds := [.handle], laidTests := true, laidLooks := .later }
def FaultWrapsUptoCardSaid : Prop := Claim7.holds Tryd.pinned (.plain (OpenSpec.upto faultWrapsSpec)) faultWrapsUptoCard

/-- THE SECOND FORM's CARD OF 'platelayerlaw01.FaultOnce'. -/
def faultOnceUptoCard : Claim7 := { stood := { row := faultOnceUptoRow, standIns := [], harness := (true, "45fe58fe71ab7732b0074800fef3b815df9e1d9f1812ffe7ce3b35205fd41c61"), looks := true }, kinds := [], alts := [], laidByText := true, laidKinds := [.handle], laidTests := true, laidLooks := .later }
def FaultOnceUptoCardSaid : Prop := Claim7.holds Tryd.pinned (.plain (OpenSpec.upto faultOnceSpec)) faultOnceUptoCard

/-- THE SECOND FORM's CARD OF 'platelayerlaw01.FaultWords'. -/
def faultWordsUptoCard : Claim7 := { stood := { row := faultWordsUptoRow, standIns := [], harness := (true, "45fe58fe71ab7732b0074800fef3b815df9e1d9f1812ffe7ce3b35205fd41c61"), looks := true }, kinds := [], alts := [], laidByText := true, laidKinds := [.data, .data, .data, .handle], laidTests := true, laidLooks := .later }
def FaultWordsUptoCardSaid : Prop := Claim7.holds Tryd.pinned (.plain (OpenSpec.upto faultWordsSpec)) faultWordsUptoCard
end Rows
end Go.Proofs.YtppanjdhfecmpaaDoor
