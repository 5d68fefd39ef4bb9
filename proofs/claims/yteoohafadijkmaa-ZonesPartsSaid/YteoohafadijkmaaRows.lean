/-
  No cell of these rows narrows 'for every input' (looked for: loops, veiled, ifaces, maps, wideKeys, modest, calm, conditions, laid).
  DERIVED. THE GIVEN ROWS OF THIS SEAT. 2 by the template 'for every input the law returns true; each argument reads behind the call as it read before'; 0 by the template 'total and deterministic' (their statements: YteoohafadijkmaaTotals.lean).
  GIVEN WITH THE SEED: the statements are not yours to turn. If you find one false, say at which input.
  Laid BY PROGRAM, IN A SANDBOX (cutbox-rows.mjs): the forced cells as the released guide's own fill.sh prints them over the translation b44854100385d4d4… (all of the seat's roots in one cut). By AI agents, Wed Nov 11 2026. No macro, syntax, notation, axiom, sorry.
-/
import Derived.Test.YteoohafadijkmaaChecked
import GoSem.Claim
import GoSem.ClaimJoined
import GoSem.ClaimMapViews
import Derived.JoinedTies
import Derived.KernelRfl
namespace Go.Proofs.Yteoohafadijkmaa
/- THE CELL 'sum', in the pinned program and in every row, IS THE sha256 OF THE DUMP (.gsa) THAT YteoohafadijkmaaProg.lean LOADS. Nothing in Lean hashes anything: it is a label: what it is worth is what the hold of that sum in a sandbox is worth. -/
noncomputable def Try.pinned : Pinned := { name := "yteoohafadijkmaa", sum := "b44854100385d4d4164e343cd4be27ea86ceb41d96cfd5051556bb35f73b18d4", checked := Try.checked }
namespace Rows
def none {H : Type} : Left H := { results := [], args := [] }

/-- 'platelayerlaw13.ZonesParts': WHATEVER THE INPUT: true; the input reads as it did. -/
def zonesPartsSpec : ChangeSpec := { name := "zonesParts", fn := fun _ => fun
  | [d1, d2] => { results := [.lit (.bool true)], args := [d1, d2] }
  | _ => none }
def zonesPartsRow : OpenClaim := { program := "yteoohafadijkmaa", sum := "b44854100385d4d4164e343cd4be27ea86ceb41d96cfd5051556bb35f73b18d4", func := "platelayer/platelayerlaw13.ZonesParts", spec := "zonesParts", unfollowed := true, recurses := true, apart := false }
def ZonesPartsSaid : Prop := zonesPartsRow.holds Try.pinned (OpenSpec.ofChange zonesPartsSpec)

/-- ITS FALSE NEIGHBOUR: 'it returns false'. Refute it at one input. -/
def zonesPartsWrong : ChangeSpec := { name := "zonesParts", fn := fun _ => fun
  | [d1, d2] => { results := [.lit (.bool false)], args := [d1, d2] }
  | _ => none }
def ZonesPartsWrongFalsely : Prop := zonesPartsRow.holds Try.pinned (OpenSpec.ofChange zonesPartsWrong)

/-- 'platelayerlaw13.ZonesTurn': WHATEVER THE INPUT: true; the input reads as it did. -/
def zonesTurnSpec : ChangeSpec := { name := "zonesTurn", fn := fun _ => fun
  | [d1, d2] => { results := [.lit (.bool true)], args := [d1, d2] }
  | _ => none }
def zonesTurnRow : OpenClaim := { program := "yteoohafadijkmaa", sum := "b44854100385d4d4164e343cd4be27ea86ceb41d96cfd5051556bb35f73b18d4", func := "platelayer/platelayerlaw13.ZonesTurn", spec := "zonesTurn", unfollowed := true, recurses := true, apart := false }
def ZonesTurnSaid : Prop := zonesTurnRow.holds Try.pinned (OpenSpec.ofChange zonesTurnSpec)

/-- ITS FALSE NEIGHBOUR: 'it returns false'. Refute it at one input. -/
def zonesTurnWrong : ChangeSpec := { name := "zonesTurn", fn := fun _ => fun
  | [d1, d2] => { results := [.lit (.bool false)], args := [d1, d2] }
  | _ => none }
def ZonesTurnWrongFalsely : Prop := zonesTurnRow.holds Try.pinned (OpenSpec.ofChange zonesTurnWrong)

/- THE SECOND FORM. 'bulk': how many values and letters a reading holds, each counted each time it is reached (what is shared counts as often as it is met; a slice's spare places count too). A statement '..UptoSaid' is the law's where the arguments, and the package variables that the reading takes, are together of bulk at most 1048576: NARROWER than '..Said'. Prove '..Said' where nothing that the law and all that it calls make is longer than what came in: it says more and counts as full. Else prove '..UptoSaid'. A law counts once. -/
mutual
def uptoBulk {H : Type} : DataW H → Nat
  | .lit (.string bytes) => bytes.length + 1
  | .lit _ => 1
  | .nil => 1
  | .ptr d => uptoBulk d + 1
  | .slice elems spare => uptoBulkAll elems + uptoBulkAll spare + 1
  | .agg parts => uptoBulkAll parts + 1
  | .iface _ d => uptoBulk d + 1
  | .map entries => uptoBulkEntries entries + 1
  | .held _ => 1
def uptoBulkAll {H : Type} : List (DataW H) → Nat
  | [] => 0
  | d :: r => uptoBulk d + uptoBulkAll r
def uptoBulkEntries {H : Type} : List (Lit × DataW H) → Nat
  | [] => 0
  | x :: r => uptoBulkEntry x + uptoBulkEntries r
def uptoBulkEntry {H : Type} : Lit × DataW H → Nat
  | (.string bytes, d) => bytes.length + uptoBulk d + 1
  | (_, d) => uptoBulk d + 1
 end
def uptoSmall : (H : Type) → List (DataW H) → Bool := fun _ ds => decide (uptoBulkAll ds ≤ 1048576)
def OpenSpec.upto (s : _root_.Go.ChangeSpec) : _root_.Go.OpenSpec := { _root_.Go.OpenSpec.ofChange s with cond := some uptoSmall }

/-- 'platelayerlaw13.ZonesParts', WHERE WHAT IT READS IS OF BULK AT MOST 1048576: true; the input reads as it did. -/
def zonesPartsUptoRow : OpenClaim := { program := "yteoohafadijkmaa", sum := "b44854100385d4d4164e343cd4be27ea86ceb41d96cfd5051556bb35f73b18d4", func := "platelayer/platelayerlaw13.ZonesParts", spec := "zonesParts", unfollowed := true, recurses := true, apart := false, narrowed := true }
def ZonesPartsUptoSaid : Prop := zonesPartsUptoRow.holds Try.pinned (OpenSpec.upto zonesPartsSpec)

/-- 'platelayerlaw13.ZonesTurn', WHERE WHAT IT READS IS OF BULK AT MOST 1048576: true; the input reads as it did. -/
def zonesTurnUptoRow : OpenClaim := { program := "yteoohafadijkmaa", sum := "b44854100385d4d4164e343cd4be27ea86ceb41d96cfd5051556bb35f73b18d4", func := "platelayer/platelayerlaw13.ZonesTurn", spec := "zonesTurn", unfollowed := true, recurses := true, apart := false, narrowed := true }
def ZonesTurnUptoSaid : Prop := zonesTurnUptoRow.holds Try.pinned (OpenSpec.upto zonesTurnSpec)

end Rows
end Go.Proofs.Yteoohafadijkmaa
