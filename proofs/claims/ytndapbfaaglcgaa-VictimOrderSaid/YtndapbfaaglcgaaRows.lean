/-
  No cell of these rows narrows 'for every input' (looked for: loops, veiled, ifaces, maps, wideKeys, modest, calm, conditions, laid).
  DERIVED. THE GIVEN ROWS OF THIS SEAT. 4 by the template 'for every input the law returns true; each argument reads behind the call as it read before'; 0 by the template 'total and deterministic' (their statements: YtndapbfaaglcgaaTotals.lean).
  GIVEN WITH THE SEED: the statements are not yours to turn. If you find one false, say at which input.
  Laid BY PROGRAM, IN A SANDBOX (cutbox-rows.mjs): the forced cells as the released guide's own fill.sh prints them over the translation 02925f5e73db59d7… (all of the seat's roots in one cut). By AI agents, Wed Nov 11 2026. No macro, syntax, notation, axiom, sorry.
-/
import Derived.Test.YtndapbfaaglcgaaChecked
import GoSem.Claim
import GoSem.ClaimJoined
import GoSem.ClaimMapViews
import Derived.JoinedTies
import Derived.KernelRfl
namespace Go.Proofs.Ytndapbfaaglcgaa
/- THE CELL 'sum', in the pinned program and in every row, IS THE sha256 OF THE DUMP (.gsa) THAT YtndapbfaaglcgaaProg.lean LOADS. Nothing in Lean hashes anything: it is a label: what it is worth is what the hold of that sum in a sandbox is worth. -/
noncomputable def Try.pinned : Pinned := { name := "ytndapbfaaglcgaa", sum := "02925f5e73db59d73f2f98bd796e43a96a97bcc6e1aa7a6a98284a8f98f06891", checked := Try.checked }
namespace Rows
def none {H : Type} : Left H := { results := [], args := [] }

/-- 'platelayerlaw12.VictimTells': WHATEVER THE INPUT: true; the input reads as it did. -/
def victimTellsSpec : ChangeSpec := { name := "victimTells", fn := fun _ => fun
  | [d1, d2, d3, d4] => { results := [.lit (.bool true)], args := [d1, d2, d3, d4] }
  | _ => none }
def victimTellsRow : OpenClaim := { program := "ytndapbfaaglcgaa", sum := "02925f5e73db59d73f2f98bd796e43a96a97bcc6e1aa7a6a98284a8f98f06891", func := "platelayer/platelayerlaw12.VictimTells", spec := "victimTells", unfollowed := true, recurses := true, apart := false }
def VictimTellsSaid : Prop := victimTellsRow.holds Try.pinned (OpenSpec.ofChange victimTellsSpec)

/-- ITS FALSE NEIGHBOUR: 'it returns false'. Refute it at one input. -/
def victimTellsWrong : ChangeSpec := { name := "victimTells", fn := fun _ => fun
  | [d1, d2, d3, d4] => { results := [.lit (.bool false)], args := [d1, d2, d3, d4] }
  | _ => none }
def VictimTellsWrongFalsely : Prop := victimTellsRow.holds Try.pinned (OpenSpec.ofChange victimTellsWrong)

/-- 'platelayerlaw12.VictimGains': WHATEVER THE INPUT: true; the input reads as it did. -/
def victimGainsSpec : ChangeSpec := { name := "victimGains", fn := fun _ => fun
  | [d1, d2, d3, d4] => { results := [.lit (.bool true)], args := [d1, d2, d3, d4] }
  | _ => none }
def victimGainsRow : OpenClaim := { program := "ytndapbfaaglcgaa", sum := "02925f5e73db59d73f2f98bd796e43a96a97bcc6e1aa7a6a98284a8f98f06891", func := "platelayer/platelayerlaw12.VictimGains", spec := "victimGains", unfollowed := true, recurses := true, apart := false }
def VictimGainsSaid : Prop := victimGainsRow.holds Try.pinned (OpenSpec.ofChange victimGainsSpec)

/-- ITS FALSE NEIGHBOUR: 'it returns false'. Refute it at one input. -/
def victimGainsWrong : ChangeSpec := { name := "victimGains", fn := fun _ => fun
  | [d1, d2, d3, d4] => { results := [.lit (.bool false)], args := [d1, d2, d3, d4] }
  | _ => none }
def VictimGainsWrongFalsely : Prop := victimGainsRow.holds Try.pinned (OpenSpec.ofChange victimGainsWrong)

/-- 'platelayerlaw12.VictimOrder': WHATEVER THE INPUT: true; the input reads as it did. -/
def victimOrderSpec : ChangeSpec := { name := "victimOrder", fn := fun _ => fun
  | [d1, d2, d3, d4, d5] => { results := [.lit (.bool true)], args := [d1, d2, d3, d4, d5] }
  | _ => none }
def victimOrderRow : OpenClaim := { program := "ytndapbfaaglcgaa", sum := "02925f5e73db59d73f2f98bd796e43a96a97bcc6e1aa7a6a98284a8f98f06891", func := "platelayer/platelayerlaw12.VictimOrder", spec := "victimOrder", unfollowed := true, recurses := true, apart := false }
def VictimOrderSaid : Prop := victimOrderRow.holds Try.pinned (OpenSpec.ofChange victimOrderSpec)

/-- ITS FALSE NEIGHBOUR: 'it returns false'. Refute it at one input. -/
def victimOrderWrong : ChangeSpec := { name := "victimOrder", fn := fun _ => fun
  | [d1, d2, d3, d4, d5] => { results := [.lit (.bool false)], args := [d1, d2, d3, d4, d5] }
  | _ => none }
def VictimOrderWrongFalsely : Prop := victimOrderRow.holds Try.pinned (OpenSpec.ofChange victimOrderWrong)

/-- 'platelayerlaw12.VictimEase': WHATEVER THE INPUT: true; the input reads as it did. -/
def victimEaseSpec : ChangeSpec := { name := "victimEase", fn := fun _ => fun
  | [d1, d2, d3, d4] => { results := [.lit (.bool true)], args := [d1, d2, d3, d4] }
  | _ => none }
def victimEaseRow : OpenClaim := { program := "ytndapbfaaglcgaa", sum := "02925f5e73db59d73f2f98bd796e43a96a97bcc6e1aa7a6a98284a8f98f06891", func := "platelayer/platelayerlaw12.VictimEase", spec := "victimEase", unfollowed := true, recurses := true, apart := false }
def VictimEaseSaid : Prop := victimEaseRow.holds Try.pinned (OpenSpec.ofChange victimEaseSpec)

/-- ITS FALSE NEIGHBOUR: 'it returns false'. Refute it at one input. -/
def victimEaseWrong : ChangeSpec := { name := "victimEase", fn := fun _ => fun
  | [d1, d2, d3, d4] => { results := [.lit (.bool false)], args := [d1, d2, d3, d4] }
  | _ => none }
def VictimEaseWrongFalsely : Prop := victimEaseRow.holds Try.pinned (OpenSpec.ofChange victimEaseWrong)

/- THE SECOND FORM. 'bulk': how many values and letters a reading holds, each counted each time it is reached (what is shared counts as often as it is met; a slice's spare places count too). A statement '..UptoSaid' is the law's where the arguments, and the package variables that the reading takes, are together of bulk at most 1048576: NARROWER than '..Said'. Prove '..Said' where nothing that the law and all that it calls make is longer than what came in: it says more and counts as full. Else prove '..UptoSaid'. A law counts once. -/
mutual
def uptoBulk {H : Type} : DataW H → Nat
  | .lit (.string bytes) => bytes.length + 1
  | .lit _ => 1
  | .nil => 1
  | .ptr d => uptoBulk d + 1
  | .slice elems spare => uptoBulkAll elems + uptoBulkAll spare + 1
  | .agg parts => uptoBulkAll parts + 1
  | .iface _ d => uptoBulk d + 1
  | .map entries => uptoBulkEntries entries + 1
  | .held _ => 1
def uptoBulkAll {H : Type} : List (DataW H) → Nat
  | [] => 0
  | d :: r => uptoBulk d + uptoBulkAll r
def uptoBulkEntries {H : Type} : List (Lit × DataW H) → Nat
  | [] => 0
  | x :: r => uptoBulkEntry x + uptoBulkEntries r
def uptoBulkEntry {H : Type} : Lit × DataW H → Nat
  | (.string bytes, d) => bytes.length + uptoBulk d + 1
  | (_, d) => uptoBulk d + 1
 end
def uptoSmall : (H : Type) → List (DataW H) → Bool := fun _ ds => decide (uptoBulkAll ds ≤ 1048576)
def OpenSpec.upto (s : _root_.Go.ChangeSpec) : _root_.Go.OpenSpec := { _root_.Go.OpenSpec.ofChange s with cond := some uptoSmall }

/-- 'platelayerlaw12.VictimTells', WHERE WHAT IT READS IS OF BULK AT MOST 1048576: true; the input reads as it did. -/
def victimTellsUptoRow : OpenClaim := { program := "ytndapbfaaglcgaa", sum := "02925f5e73db59d73f2f98bd796e43a96a97bcc6e1aa7a6a98284a8f98f06891", func := "platelayer/platelayerlaw12.VictimTells", spec := "victimTells", unfollowed := true, recurses := true, apart := false, narrowed := true }
def VictimTellsUptoSaid : Prop := victimTellsUptoRow.holds Try.pinned (OpenSpec.upto victimTellsSpec)

/-- 'platelayerlaw12.VictimGains', WHERE WHAT IT READS IS OF BULK AT MOST 1048576: true; the input reads as it did. -/
def victimGainsUptoRow : OpenClaim := { program := "ytndapbfaaglcgaa", sum := "02925f5e73db59d73f2f98bd796e43a96a97bcc6e1aa7a6a98284a8f98f06891", func := "platelayer/platelayerlaw12.VictimGains", spec := "victimGains", unfollowed := true, recurses := true, apart := false, narrowed := true }
def VictimGainsUptoSaid : Prop := victimGainsUptoRow.holds Try.pinned (OpenSpec.upto victimGainsSpec)

/-- 'platelayerlaw12.VictimOrder', WHERE WHAT IT READS IS OF BULK AT MOST 1048576: true; the input reads as it did. -/
def victimOrderUptoRow : OpenClaim := { program := "ytndapbfaaglcgaa", sum := "02925f5e73db59d73f2f98bd796e43a96a97bcc6e1aa7a6a98284a8f98f06891", func := "platelayer/platelayerlaw12.VictimOrder", spec := "victimOrder", unfollowed := true, recurses := true, apart := false, narrowed := true }
def VictimOrderUptoSaid : Prop := victimOrderUptoRow.holds Try.pinned (OpenSpec.upto victimOrderSpec)

/-- 'platelayerlaw12.VictimEase', WHERE WHAT IT READS IS OF BULK AT MOST 1048576: true; the input reads as it did. -/
def victimEaseUptoRow : OpenClaim := { program := "ytndapbfaaglcgaa", sum := "02925f5e73db59d73f2f98bd796e43a96a97bcc6e1aa7a6a98284a8f98f06891", func := "platelayer/platelayerlaw12.VictimEase", spec := "victimEase", unfollowed := true, recurses := true, apart := false, narrowed := true }
def VictimEaseUptoSaid : Prop := victimEaseUptoRow.holds Try.pinned (OpenSpec.upto victimEaseSpec)

end Rows
end Go.Proofs.Ytndapbfaaglcgaa
