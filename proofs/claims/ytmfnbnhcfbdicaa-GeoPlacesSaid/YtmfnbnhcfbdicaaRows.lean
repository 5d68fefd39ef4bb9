/-
  No cell of these rows narrows 'for every input' (looked for: loops, veiled, ifaces, maps, wideKeys, modest, calm, conditions, laid).
  DERIVED. THE GIVEN ROWS OF THIS SEAT. 4 by the template 'for every input the law returns true; each argument reads behind the call as it read before'; 0 by the template 'total and deterministic' (their statements: YtmfnbnhcfbdicaaTotals.lean).
  GIVEN WITH THE SEED: the statements are not yours to turn. If you find one false, say at which input.
  Laid BY PROGRAM, IN A SANDBOX (cutbox-rows.mjs): the forced cells as the released guide's own fill.sh prints them over the translation bc8474c9fd3e0566… (all of the seat's roots in one cut). By AI agents, Wed Nov 11 2026. No macro, syntax, notation, axiom, sorry.
-/
import Derived.Test.YtmfnbnhcfbdicaaChecked
import GoSem.Claim
import GoSem.ClaimJoined
import GoSem.ClaimMapViews
import Derived.JoinedTies
import Derived.KernelRfl
namespace Go.Proofs.Ytmfnbnhcfbdicaa
/- THE CELL 'sum', in the pinned program and in every row, IS THE sha256 OF THE DUMP (.gsa) THAT YtmfnbnhcfbdicaaProg.lean LOADS. Nothing in Lean hashes anything: it is a label: what it is worth is what the hold of that sum in a sandbox is worth. -/
noncomputable def Try.pinned : Pinned := { name := "ytmfnbnhcfbdicaa", sum := "bc8474c9fd3e0566b39915b547c6c91801b909c03df3a08898e4bd51b00f9550", checked := Try.checked }
namespace Rows
def none {H : Type} : Left H := { results := [], args := [] }

/-- 'platelayerlaw02.GeoTells': WHATEVER THE INPUT: true; the input reads as it did. -/
def geoTellsSpec : ChangeSpec := { name := "geoTells", fn := fun _ => fun
  | [d1, d2] => { results := [.lit (.bool true)], args := [d1, d2] }
  | _ => none }
def geoTellsRow : OpenClaim := { program := "ytmfnbnhcfbdicaa", sum := "bc8474c9fd3e0566b39915b547c6c91801b909c03df3a08898e4bd51b00f9550", func := "platelayer/platelayerlaw02.GeoTells", spec := "geoTells", apart := false }
def GeoTellsSaid : Prop := geoTellsRow.holds Try.pinned (OpenSpec.ofChange geoTellsSpec)

/-- ITS FALSE NEIGHBOUR: 'it returns false'. Refute it at one input. -/
def geoTellsWrong : ChangeSpec := { name := "geoTells", fn := fun _ => fun
  | [d1, d2] => { results := [.lit (.bool false)], args := [d1, d2] }
  | _ => none }
def GeoTellsWrongFalsely : Prop := geoTellsRow.holds Try.pinned (OpenSpec.ofChange geoTellsWrong)

/-- 'platelayerlaw02.GeoPlaces': WHATEVER THE INPUT: true; the input reads as it did. -/
def geoPlacesSpec : ChangeSpec := { name := "geoPlaces", fn := fun _ => fun
  | [d1, d2, d3, d4] => { results := [.lit (.bool true)], args := [d1, d2, d3, d4] }
  | _ => none }
def geoPlacesRow : OpenClaim := { program := "ytmfnbnhcfbdicaa", sum := "bc8474c9fd3e0566b39915b547c6c91801b909c03df3a08898e4bd51b00f9550", func := "platelayer/platelayerlaw02.GeoPlaces", spec := "geoPlaces", apart := false }
def GeoPlacesSaid : Prop := geoPlacesRow.holds Try.pinned (OpenSpec.ofChange geoPlacesSpec)

/-- ITS FALSE NEIGHBOUR: 'it returns false'. Refute it at one input. -/
def geoPlacesWrong : ChangeSpec := { name := "geoPlaces", fn := fun _ => fun
  | [d1, d2, d3, d4] => { results := [.lit (.bool false)], args := [d1, d2, d3, d4] }
  | _ => none }
def GeoPlacesWrongFalsely : Prop := geoPlacesRow.holds Try.pinned (OpenSpec.ofChange geoPlacesWrong)

/-- 'platelayerlaw02.GeoAll': WHATEVER THE INPUT: true; the input reads as it did. -/
def geoAllSpec : ChangeSpec := { name := "geoAll", fn := fun _ => fun
  | [d] => { results := [.lit (.bool true)], args := [d] }
  | _ => none }
def geoAllRow : OpenClaim := { program := "ytmfnbnhcfbdicaa", sum := "bc8474c9fd3e0566b39915b547c6c91801b909c03df3a08898e4bd51b00f9550", func := "platelayer/platelayerlaw02.GeoAll", spec := "geoAll", apart := false }
def GeoAllSaid : Prop := geoAllRow.holds Try.pinned (OpenSpec.ofChange geoAllSpec)

/-- ITS FALSE NEIGHBOUR: 'it returns false'. Refute it at one input. -/
def geoAllWrong : ChangeSpec := { name := "geoAll", fn := fun _ => fun
  | [d] => { results := [.lit (.bool false)], args := [d] }
  | _ => none }
def GeoAllWrongFalsely : Prop := geoAllRow.holds Try.pinned (OpenSpec.ofChange geoAllWrong)

/-- 'platelayerlaw02.GeoRoom': WHATEVER THE INPUT: true; the input reads as it did. -/
def geoRoomSpec : ChangeSpec := { name := "geoRoom", fn := fun _ => fun
  | [d1, d2] => { results := [.lit (.bool true)], args := [d1, d2] }
  | _ => none }
def geoRoomRow : OpenClaim := { program := "ytmfnbnhcfbdicaa", sum := "bc8474c9fd3e0566b39915b547c6c91801b909c03df3a08898e4bd51b00f9550", func := "platelayer/platelayerlaw02.GeoRoom", spec := "geoRoom", apart := false }
def GeoRoomSaid : Prop := geoRoomRow.holds Try.pinned (OpenSpec.ofChange geoRoomSpec)

/-- ITS FALSE NEIGHBOUR: 'it returns false'. Refute it at one input. -/
def geoRoomWrong : ChangeSpec := { name := "geoRoom", fn := fun _ => fun
  | [d1, d2] => { results := [.lit (.bool false)], args := [d1, d2] }
  | _ => none }
def GeoRoomWrongFalsely : Prop := geoRoomRow.holds Try.pinned (OpenSpec.ofChange geoRoomWrong)

/- THE SECOND FORM. 'bulk': how many values and letters a reading holds, each counted each time it is reached (what is shared counts as often as it is met; a slice's spare places count too). A statement '..UptoSaid' is the law's where the arguments, and the package variables that the reading takes, are together of bulk at most 1048576: NARROWER than '..Said'. Prove '..Said' where nothing that the law and all that it calls make is longer than what came in: it says more and counts as full. Else prove '..UptoSaid'. A law counts once. -/
mutual
def uptoBulk {H : Type} : DataW H → Nat
  | .lit (.string bytes) => bytes.length + 1
  | .lit _ => 1
  | .nil => 1
  | .ptr d => uptoBulk d + 1
  | .slice elems spare => uptoBulkAll elems + uptoBulkAll spare + 1
  | .agg parts => uptoBulkAll parts + 1
  | .iface _ d => uptoBulk d + 1
  | .map entries => uptoBulkEntries entries + 1
  | .held _ => 1
def uptoBulkAll {H : Type} : List (DataW H) → Nat
  | [] => 0
  | d :: r => uptoBulk d + uptoBulkAll r
def uptoBulkEntries {H : Type} : List (Lit × DataW H) → Nat
  | [] => 0
  | x :: r => uptoBulkEntry x + uptoBulkEntries r
def uptoBulkEntry {H : Type} : Lit × DataW H → Nat
  | (.string bytes, d) => bytes.length + uptoBulk d + 1
  | (_, d) => uptoBulk d + 1
 end
def uptoSmall : (H : Type) → List (DataW H) → Bool := fun _ ds => decide (uptoBulkAll ds ≤ 1048576)
def OpenSpec.upto (s : _root_.Go.ChangeSpec) : _root_.Go.OpenSpec := { _root_.Go.OpenSpec.ofChange s with cond := some uptoSmall }

/-- 'platelayerlaw02.GeoTells', WHERE WHAT IT READS IS OF BULK AT MOST 1048576: true; the input reads as it did. -/
def geoTellsUptoRow : OpenClaim := { program := "ytmfnbnhcfbdicaa", sum := "bc8474c9fd3e0566b39915b547c6c91801b909c03df3a08898e4bd51b00f9550", func := "platelayer/platelayerlaw02.GeoTells", spec := "geoTells", apart := false, narrowed := true }
def GeoTellsUptoSaid : Prop := geoTellsUptoRow.holds Try.pinned (OpenSpec.upto geoTellsSpec)

/-- 'platelayerlaw02.GeoPlaces', WHERE WHAT IT READS IS OF BULK AT MOST 1048576: true; the input reads as it did. -/
def geoPlacesUptoRow : OpenClaim := { program := "ytmfnbnhcfbdicaa", sum := "bc8474c9fd3e0566b39915b547c6c91801b909c03df3a08898e4bd51b00f9550", func := "platelayer/platelayerlaw02.GeoPlaces", spec := "geoPlaces", apart := false, narrowed := true }
def GeoPlacesUptoSaid : Prop := geoPlacesUptoRow.holds Try.pinned (OpenSpec.upto geoPlacesSpec)

/-- 'platelayerlaw02.GeoAll', WHERE WHAT IT READS IS OF BULK AT MOST 1048576: true; the input reads as it did. -/
def geoAllUptoRow : OpenClaim := { program := "ytmfnbnhcfbdicaa", sum := "bc8474c9fd3e0566b39915b547c6c91801b909c03df3a08898e4bd51b00f9550", func := "platelayer/platelayerlaw02.GeoAll", spec := "geoAll", apart := false, narrowed := true }
def GeoAllUptoSaid : Prop := geoAllUptoRow.holds Try.pinned (OpenSpec.upto geoAllSpec)

/-- 'platelayerlaw02.GeoRoom', WHERE WHAT IT READS IS OF BULK AT MOST 1048576: true; the input reads as it did. -/
def geoRoomUptoRow : OpenClaim := { program := "ytmfnbnhcfbdicaa", sum := "bc8474c9fd3e0566b39915b547c6c91801b909c03df3a08898e4bd51b00f9550", func := "platelayer/platelayerlaw02.GeoRoom", spec := "geoRoom", apart := false, narrowed := true }
def GeoRoomUptoSaid : Prop := geoRoomUptoRow.holds Try.pinned (OpenSpec.upto geoRoomSpec)

end Rows
end Go.Proofs.Ytmfnbnhcfbdicaa
