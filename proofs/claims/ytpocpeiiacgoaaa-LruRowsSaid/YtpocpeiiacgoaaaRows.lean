/-
  No cell of these rows narrows 'for every input' (looked for: loops, veiled, ifaces, maps, wideKeys, modest, calm, conditions, laid).
  DERIVED. THE GIVEN ROWS OF THIS SEAT. 3 by the template 'for every input the law returns true; each argument reads behind the call as it read before'; 0 by the template 'total and deterministic' (their statements: YtpocpeiiacgoaaaTotals.lean).
  GIVEN WITH THE SEED: the statements are not yours to turn. If you find one false, say at which input.
  Laid BY PROGRAM, IN A SANDBOX (cutbox-rows.mjs): the forced cells as the released guide's own fill.sh prints them over the translation 00770d9f86c874d5… (all of the seat's roots in one cut). By AI agents, Wed Nov 11 2026. No macro, syntax, notation, axiom, sorry.
-/
import Derived.Test.YtpocpeiiacgoaaaChecked
import GoSem.Claim
import GoSem.ClaimJoined
import GoSem.ClaimMapViews
import Derived.JoinedTies
import Derived.KernelRfl
namespace Go.Proofs.Ytpocpeiiacgoaaa
/- THE CELL 'sum', in the pinned program and in every row, IS THE sha256 OF THE DUMP (.gsa) THAT YtpocpeiiacgoaaaProg.lean LOADS. Nothing in Lean hashes anything: it is a label: what it is worth is what the hold of that sum in a sandbox is worth. -/
noncomputable def Try.pinned : Pinned := { name := "ytpocpeiiacgoaaa", sum := "00770d9f86c874d57f0f899847292d07014f29dac59ae3c40274e6507a425fed", checked := Try.checked }
namespace Rows
def none {H : Type} : Left H := { results := [], args := [] }

/-- 'platelayerlaw08.LruRows': WHATEVER THE INPUT: true; the input reads as it did. -/
def lruRowsSpec : ChangeSpec := { name := "lruRows", fn := fun _ => fun
  | [d1, d2] => { results := [.lit (.bool true)], args := [d1, d2] }
  | _ => none }
def lruRowsRow : OpenClaim := { program := "ytpocpeiiacgoaaa", sum := "00770d9f86c874d57f0f899847292d07014f29dac59ae3c40274e6507a425fed", func := "platelayer/platelayerlaw08.LruRows", spec := "lruRows", unfollowed := true, recurses := true, apart := false }
def LruRowsSaid : Prop := lruRowsRow.holds Try.pinned (OpenSpec.ofChange lruRowsSpec)

/-- ITS FALSE NEIGHBOUR: 'it returns false'. Refute it at one input. -/
def lruRowsWrong : ChangeSpec := { name := "lruRows", fn := fun _ => fun
  | [d1, d2] => { results := [.lit (.bool false)], args := [d1, d2] }
  | _ => none }
def LruRowsWrongFalsely : Prop := lruRowsRow.holds Try.pinned (OpenSpec.ofChange lruRowsWrong)

/-- 'platelayerlaw08.LruFirst': WHATEVER THE INPUT: true; the input reads as it did. -/
def lruFirstSpec : ChangeSpec := { name := "lruFirst", fn := fun _ => fun
  | [d1, d2] => { results := [.lit (.bool true)], args := [d1, d2] }
  | _ => none }
def lruFirstRow : OpenClaim := { program := "ytpocpeiiacgoaaa", sum := "00770d9f86c874d57f0f899847292d07014f29dac59ae3c40274e6507a425fed", func := "platelayer/platelayerlaw08.LruFirst", spec := "lruFirst", unfollowed := true, recurses := true, apart := false }
def LruFirstSaid : Prop := lruFirstRow.holds Try.pinned (OpenSpec.ofChange lruFirstSpec)

/-- ITS FALSE NEIGHBOUR: 'it returns false'. Refute it at one input. -/
def lruFirstWrong : ChangeSpec := { name := "lruFirst", fn := fun _ => fun
  | [d1, d2] => { results := [.lit (.bool false)], args := [d1, d2] }
  | _ => none }
def LruFirstWrongFalsely : Prop := lruFirstRow.holds Try.pinned (OpenSpec.ofChange lruFirstWrong)

/-- 'platelayerlaw08.LruKept': WHATEVER THE INPUT: true; the input reads as it did. -/
def lruKeptSpec : ChangeSpec := { name := "lruKept", fn := fun _ => fun
  | [d1, d2] => { results := [.lit (.bool true)], args := [d1, d2] }
  | _ => none }
def lruKeptRow : OpenClaim := { program := "ytpocpeiiacgoaaa", sum := "00770d9f86c874d57f0f899847292d07014f29dac59ae3c40274e6507a425fed", func := "platelayer/platelayerlaw08.LruKept", spec := "lruKept", unfollowed := true, recurses := true, apart := false }
def LruKeptSaid : Prop := lruKeptRow.holds Try.pinned (OpenSpec.ofChange lruKeptSpec)

/-- ITS FALSE NEIGHBOUR: 'it returns false'. Refute it at one input. -/
def lruKeptWrong : ChangeSpec := { name := "lruKept", fn := fun _ => fun
  | [d1, d2] => { results := [.lit (.bool false)], args := [d1, d2] }
  | _ => none }
def LruKeptWrongFalsely : Prop := lruKeptRow.holds Try.pinned (OpenSpec.ofChange lruKeptWrong)

/- THE SECOND FORM. 'bulk': how many values and letters a reading holds, each counted each time it is reached (what is shared counts as often as it is met; a slice's spare places count too). A statement '..UptoSaid' is the law's where the arguments, and the package variables that the reading takes, are together of bulk at most 1048576: NARROWER than '..Said'. Prove '..Said' where nothing that the law and all that it calls make is longer than what came in: it says more and counts as full. Else prove '..UptoSaid'. A law counts once. -/
mutual
def uptoBulk {H : Type} : DataW H → Nat
  | .lit (.string bytes) => bytes.length + 1
  | .lit _ => 1
  | .nil => 1
  | .ptr d => uptoBulk d + 1
  | .slice elems spare => uptoBulkAll elems + uptoBulkAll spare + 1
  | .agg parts => uptoBulkAll parts + 1
  | .iface _ d => uptoBulk d + 1
  | .map entries => uptoBulkEntries entries + 1
  | .held _ => 1
def uptoBulkAll {H : Type} : List (DataW H) → Nat
  | [] => 0
  | d :: r => uptoBulk d + uptoBulkAll r
def uptoBulkEntries {H : Type} : List (Lit × DataW H) → Nat
  | [] => 0
  | x :: r => uptoBulkEntry x + uptoBulkEntries r
def uptoBulkEntry {H : Type} : Lit × DataW H → Nat
  | (.string bytes, d) => bytes.length + uptoBulk d + 1
  | (_, d) => uptoBulk d + 1
 end
def uptoSmall : (H : Type) → List (DataW H) → Bool := fun _ ds => decide (uptoBulkAll ds ≤ 1048576)
def OpenSpec.upto (s : _root_.Go.ChangeSpec) : _root_.Go.OpenSpec := { _root_.Go.OpenSpec.ofChange s with cond := some uptoSmall }

/-- 'platelayerlaw08.LruRows', WHERE WHAT IT READS IS OF BULK AT MOST 1048576: true; the input reads as it did. -/
def lruRowsUptoRow : OpenClaim := { program := "ytpocpeiiacgoaaa", sum := "00770d9f86c874d57f0f899847292d07014f29dac59ae3c40274e6507a425fed", func := "platelayer/platelayerlaw08.LruRows", spec := "lruRows", unfollowed := true, recurses := true, apart := false, narrowed := true }
def LruRowsUptoSaid : Prop := lruRowsUptoRow.holds Try.pinned (OpenSpec.upto lruRowsSpec)

/-- 'platelayerlaw08.LruFirst', WHERE WHAT IT READS IS OF BULK AT MOST 1048576: true; the input reads as it did. -/
def lruFirstUptoRow : OpenClaim := { program := "ytpocpeiiacgoaaa", sum := "00770d9f86c874d57f0f899847292d07014f29dac59ae3c40274e6507a425fed", func := "platelayer/platelayerlaw08.LruFirst", spec := "lruFirst", unfollowed := true, recurses := true, apart := false, narrowed := true }
def LruFirstUptoSaid : Prop := lruFirstUptoRow.holds Try.pinned (OpenSpec.upto lruFirstSpec)

/-- 'platelayerlaw08.LruKept', WHERE WHAT IT READS IS OF BULK AT MOST 1048576: true; the input reads as it did. -/
def lruKeptUptoRow : OpenClaim := { program := "ytpocpeiiacgoaaa", sum := "00770d9f86c874d57f0f899847292d07014f29dac59ae3c40274e6507a425fed", func := "platelayer/platelayerlaw08.LruKept", spec := "lruKept", unfollowed := true, recurses := true, apart := false, narrowed := true }
def LruKeptUptoSaid : Prop := lruKeptUptoRow.holds Try.pinned (OpenSpec.upto lruKeptSpec)

end Rows
end Go.Proofs.Ytpocpeiiacgoaaa
