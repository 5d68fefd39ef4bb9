/-
  DERIVED. GIVEN WITH THE SEED: THE CARDS: each row of YthmpimjmajoimaaGreatDoorRows.lean that lists a variable, with what it lists TIED to the program's text (the seventh form; the later family's looks); each row that meets fmt, with fmt's text TOLD by the authors' own Lean function (tested against real Go, not proved from fmt's source: count such statements apart). THE CARD IS WHAT COUNTS. Prove the row's statement (the work); the ties are given (YthmpimjmajoimaaGreatDoorTie.lean); close each card by the builder's one call (the guide's Derived/Test/ToyasCard.lean, 'card_holds'). Laid BY PROGRAM, IN A SANDBOX (cutbox-door.mjs). By AI agents, Wed Nov 11 2026. No macro, syntax, notation, axiom, sorry.
-/
import Derived.Test.YthmpimjmajoimaaGreatDoorRows
import GoSem.ClaimSeven
namespace Go.Proofs.YthmpimjmajoimaaGreatDoor
namespace Rows

/-- THE TIED CARD OF 'platelayerlaw15.SlotWrites'. -/
def slotWritesCard : Claim7 := { stood := { row := slotWritesRow, standIns := [], harness := (true, "45588d8d0592494a532985532baf7c50277e900a0fca9554b327a258b37e04df"), looks := true }, kinds := [], alts := [], laidByText := true, laidKinds := [.handle], laidTests := true, laidLooks := .later }
def SlotWritesCardSaid : Prop := Claim7.holds Tryz.pinned (.plain (OpenSpec.ofChange slotWritesSpec)) slotWritesCard

/-- THE TIED CARD OF 'platelayerlaw15.SlotReads'. -/
def slotReadsCard : Claim7 := { stood := { row := slotReadsRow, standIns := [], harness := (true, "45588d8d0592494a532985532baf7c50277e900a0fca9554b327a258b37e04df"), looks := true }, kinds := [], alts := [], laidByText := true, laidKinds := [.handle], laidTests := true, laidLooks := .later }
def SlotReadsCardSaid : Prop := Claim7.holds Tryz.pinned (.plain (OpenSpec.ofChange slotReadsSpec)) slotReadsCard

/-- THE TIED CARD OF 'platelayerlaw15.SlotTurns'. -/
def slotTurnsCard : Claim7 := { stood := { row := slotTurnsRow, standIns := [], harness := (true, "45588d8d0592494a532985532baf7c50277e900a0fca9554b327a258b37e04df"), looks := true }, kinds := [], alts := [], laidByText := true, laidKinds := [.handle], laidTests := true, laidLooks := .later }
def SlotTurnsCardSaid : Prop := Claim7.holds Tryz.pinned (.plain (OpenSpec.ofChange slotTurnsSpec)) slotTurnsCard

/-- THE TIED CARD OF 'platelayerlaw15.SlotOther'. -/
def slotOtherCard : Claim7 := { stood := { row := slotOtherRow, standIns := [], harness := (true, "45588d8d0592494a532985532baf7c50277e900a0fca9554b327a258b37e04df"), looks := true }, kinds := [], alts := [], laidByText := true, laidKinds := [.handle], laidTests := true, laidLooks := .later }
def SlotOtherCardSaid : Prop := Claim7.holds Tryz.pinned (.plain (OpenSpec.ofChange slotOtherSpec)) slotOtherCard

/-- THE SECOND FORM's CARD OF 'platelayerlaw15.SlotWrites'. -/
def slotWritesUptoCard : Claim7 := { stood := { row := slotWritesUptoRow, standIns := [], harness := (true, "45588d8d0592494a532985532baf7c50277e900a0fca9554b327a258b37e04df"), looks := true }, kinds := [], alts := [], laidByText := true, laidKinds := [.handle], laidTests := true, laidLooks := .later }
def SlotWritesUptoCardSaid : Prop := Claim7.holds Tryz.pinned (.plain (OpenSpec.upto slotWritesSpec)) slotWritesUptoCard

/-- THE SECOND FORM's CARD OF 'platelayerlaw15.SlotReads'. -/
def slotReadsUptoCard : Claim7 := { stood := { row := slotReadsUptoRow, standIns := [], harness := (true, "45588d8d0592494a532985532baf7c50277e900a0fca9554b327a258b37e04df"), looks := true }, kinds := [], alts := [], laidByText := true, laidKinds := [.handle], laidTests := true, laidLooks := .later }
def SlotReadsUptoCardSaid : Prop := Claim7.holds Tryz.pinned (.plain (OpenSpec.upto slotReadsSpec)) slotReadsUptoCard

/-- THE SECOND FORM's CARD OF 'platelayerlaw15.SlotTurns'. -/
def slotTurnsUptoCard : Claim7 := { stood := { row := slotTurnsUptoRow, standIns := [], harness := (true, "45588d8d0592494a532985532baf7c50277e900a0fca9554b327a258b37e04df"), looks := true }, kinds := [], alts := [], laidByText := true, laidKinds := [.handle], laidTests := true, laidLooks := .later }
def SlotTurnsUptoCardSaid : Prop := Claim7.holds Tryz.pinned (.plain (OpenSpec.upto slotTurnsSpec)) slotTurnsUptoCard

/-- THE SECOND FORM's CARD OF 'platelayerlaw15.SlotOther'. -/
def slotOtherUptoCard : Claim7 := { stood := { row := slotOtherUptoRow, standIns := [], harness := (true, "45588d8d0592494a532985532baf7c50277e900a0fca9554b327a258b37e04df"), looks := true }, kinds := [], alts := [], laidByText := true, laidKinds := [.handle], laidTests := true, laidLooks := .later }
def SlotOtherUptoCardSaid : Prop := Claim7.holds Tryz.pinned (.plain (OpenSpec.upto slotOtherSpec)) slotOtherUptoCard
end Rows
end Go.Proofs.YthmpimjmajoimaaGreatDoor
