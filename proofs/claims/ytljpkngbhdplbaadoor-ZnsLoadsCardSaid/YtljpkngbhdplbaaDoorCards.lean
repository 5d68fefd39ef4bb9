/-
  DERIVED. GIVEN WITH THE SEED: THE CARDS: each row of YtljpkngbhdplbaaDoorRows.lean that lists a variable, with what it lists TIED to the program's text (the seventh form; the later family's looks); each row that meets fmt, with fmt's text TOLD by the authors' own Lean function (tested against real Go, not proved from fmt's source: count such statements apart). THE CARD IS WHAT COUNTS. Prove the row's statement (the work); the ties are given (YtljpkngbhdplbaaDoorTie.lean); close each card by the builder's one call (the guide's Derived/Test/ToyasCard.lean, 'card_holds'). Laid BY PROGRAM, IN A SANDBOX (cutbox-door.mjs). By AI agents, Wed Nov 11 2026. No macro, syntax, notation, axiom, sorry.
-/
import Derived.Test.YtljpkngbhdplbaaDoorRows
import GoSem.ClaimSeven
namespace Go.Proofs.YtljpkngbhdplbaaDoor
namespace Rows

/-- THE TIED CARD OF 'platelayerlaw07.ZnsDoes'. -/
def znsDoesCard : Claim7 := { stood := { row := znsDoesRow, standIns := [], harness := (true, "8b8a4d810f8bc5f61f9c25bb7f0ef2885ae08b862cb8d593ea2858f8e334b206"), looks := true }, kinds := [], alts := [], laidByText := true, laidKinds := [.handle], laidTests := true, laidLooks := .later }
def ZnsDoesCardSaid : Prop := Claim7.holds Tryd.pinned (.plain (OpenSpec.ofChange znsDoesSpec)) znsDoesCard

/-- THE TIED CARD OF 'platelayerlaw07.ZnsLoads'. -/
def znsLoadsCard : Claim7 := { stood := { row := znsLoadsRow, standIns := [], harness := (true, "8b8a4d810f8bc5f61f9c25bb7f0ef2885ae08b862cb8d593ea2858f8e334b206"), looks := true }, kinds := [], alts := [], laidByText := true, laidKinds := [.handle], laidTests := true, laidLooks := .later }
def ZnsLoadsCardSaid : Prop := Claim7.holds Tryd.pinned (.plain (OpenSpec.ofChange znsLoadsSpec)) znsLoadsCard

/-- THE TIED CARD OF 'platelayerlaw07.ZnsSure'. -/
def znsSureCard : Claim7 := { stood := { row := znsSureRow, standIns := [], harness := (true, "8b8a4d810f8bc5f61f9c25bb7f0ef2885ae08b862cb8d593ea2858f8e334b206"), looks := true }, kinds := [], alts := [], laidByText := true, laidKinds := [.handle], laidTests := true, laidLooks := .later }
def ZnsSureCardSaid : Prop := Claim7.holds Tryd.pinned (.plain (OpenSpec.ofChange znsSureSpec)) znsSureCard

/-- THE TIED CARD OF 'platelayerlaw07.ZnsFuse'. -/
def znsFuseCard : Claim7 := { stood := { row := znsFuseRow, standIns := [], harness := (true, "8b8a4d810f8bc5f61f9c25bb7f0ef2885ae08b862cb8d593ea2858f8e334b206"), looks := true }, kinds := [], alts := [], laidByText := true, laidKinds := [.handle], laidTests := true, laidLooks := .later }
def ZnsFuseCardSaid : Prop := Claim7.holds Tryd.pinned (.plain (OpenSpec.ofChange znsFuseSpec)) znsFuseCard

/-- THE TIED CARD OF 'platelayerlaw07.ZnsAgain'. -/
def znsAgainCard : Claim7 := { stood := { row := znsAgainRow, standIns := [], harness := (true, "8b8a4d810f8bc5f61f9c25bb7f0ef2885ae08b862cb8d593ea2858f8e334b206"), looks := true }, kinds := [], alts := [], laidByText := true, laidKinds := [.handle], laidTests := true, laidLooks := .later }
def ZnsAgainCardSaid : Prop := Claim7.holds Tryd.pinned (.plain (OpenSpec.ofChange znsAgainSpec)) znsAgainCard

/-- THE TIED CARD OF 'platelayerlaw07.ZnsApart'. -/
def znsApartCard : Claim7 := { stood := { row := znsApartRow, standIns := [], harness := (true, "8b8a4d810f8bc5f61f9c25bb7f0ef2885ae08b862cb8d593ea2858f8e334b206"), looks := true }, kinds := [], alts := [], laidByText := true, laidKinds := [.handle], laidTests := true, laidLooks := .later }
def ZnsApartCardSaid : Prop := Claim7.holds Tryd.pinned (.plain (OpenSpec.ofChange znsApartSpec)) znsApartCard

/-- THE SECOND FORM's CARD OF 'platelayerlaw07.ZnsDoes'. -/
def znsDoesUptoCard : Claim7 := { stood := { row := znsDoesUptoRow, standIns := [], harness := (true, "8b8a4d810f8bc5f61f9c25bb7f0ef2885ae08b862cb8d593ea2858f8e334b206"), looks := true }, kinds := [], alts := [], laidByText := true, laidKinds := [.handle], laidTests := true, laidLooks := .later }
def ZnsDoesUptoCardSaid : Prop := Claim7.holds Tryd.pinned (.plain (OpenSpec.upto znsDoesSpec)) znsDoesUptoCard

/-- THE SECOND FORM's CARD OF 'platelayerlaw07.ZnsLoads'. -/
def znsLoadsUptoCard : Claim7 := { stood := { row := znsLoadsUptoRow, standIns := [], harness := (true, "8b8a4d810f8bc5f61f9c25bb7f0ef2885ae08b862cb8d593ea2858f8e334b206"), looks := true }, kinds := [], alts := [], laidByText := true, laidKinds := [.handle], laidTests := true, laidLooks := .later }
def ZnsLoadsUptoCardSaid : Prop := Claim7.holds Tryd.pinned (.plain (OpenSpec.upto znsLoadsSpec)) znsLoadsUptoCard

/-- THE SECOND FORM's CARD OF 'platelayerlaw07.ZnsSure'. -/
def znsSureUptoCard : Claim7 := { stood := { row := znsSureUptoRow, standIns := [], harness := (true, "8b8a4d810f8bc5f61f9c25bb7f0ef2885ae08b862cb8d593ea2858f8e334b206"), looks := true }, kinds := [], alts := [], laidByText := true, laidKinds := [.handle], laidTests := true, laidLooks := .later }
def ZnsSureUptoCardSaid : Prop := Claim7.holds Tryd.pinned (.plain (OpenSpec.upto znsSureSpec)) znsSureUptoCard

/-- THE SECOND FORM's CARD OF 'platelayerlaw07.ZnsFuse'. -/
def znsFuseUptoCard : Claim7 := { stood := { row := znsFuseUptoRow, standIns := [], harness := (true, "8b8a4d810f8bc5f61f9c25bb7f0ef2885ae08b862cb8d593ea2858f8e334b206"), looks := true }, kinds := [], alts := [], laidByText := true, laidKinds := [.handle], laidTests := true, laidLooks := .later }
def ZnsFuseUptoCardSaid : Prop := Claim7.holds Tryd.pinned (.plain (OpenSpec.upto znsFuseSpec)) znsFuseUptoCard

/-- THE SECOND FORM's CARD OF 'platelayerlaw07.ZnsAgain'. -/
def znsAgainUptoCard : Claim7 := { stood := { row := znsAgainUptoRow, standIns := [], harness := (true, "8b8a4d810f8bc5f61f9c25bb7f0ef2885ae08b862cb8d593ea2858f8e334b206"), looks := true }, kinds := [], alts := [], laidByText := true, laidKinds := [.handle], laidTests := true, laidLooks := .later }
def ZnsAgainUptoCardSaid : Prop := Claim7.holds Tryd.pinned (.plain (OpenSpec.upto znsAgainSpec)) znsAgainUptoCard

/-- THE SECOND FORM's CARD OF 'platelayerlaw07.ZnsApart'. -/
def znsApartUptoCard : Claim7 := { stood := { row := znsApartUptoRow, standIns := [], harness := (true, "8b8a4d810f8bc5f61f9c25bb7f0ef2885ae08b862cb8d593ea2858f8e334b206"), looks := true }, kinds := [], alts := [], laidByText := true, laidKinds := [.handle], laidTests := true, laidLooks := .later }
def ZnsApartUptoCardSaid : Prop := Claim7.holds Tryd.pinned (.plain (OpenSpec.upto znsApartSpec)) znsApartUptoCard
end Rows
end Go.Proofs.YtljpkngbhdplbaaDoor
