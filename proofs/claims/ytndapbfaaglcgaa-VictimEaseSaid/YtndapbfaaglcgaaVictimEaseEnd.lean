/-
  PROVED: for every input, platelayerlaw12.VictimEase returns true, leaves its arguments as they were, and ends without a panic.
  Conditions: none beyond the given row.
-/
import Derived.Test.YtndapbfaaglcgaaVictimEaseRow
import Derived.Test.YtndapbfaaglcgaaVcInst
namespace Go.Proofs.Ytndapbfaaglcgaa

theorem victimEase_holds : Rows.VictimEaseSaid := victimEase_of vops
#print axioms victimEase_holds
end Go.Proofs.Ytndapbfaaglcgaa
