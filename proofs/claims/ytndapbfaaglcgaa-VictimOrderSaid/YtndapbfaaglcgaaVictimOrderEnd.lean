/-
  PROVED: for every input, platelayerlaw12.VictimOrder returns true, leaves its arguments as they were, and ends without a panic.
  Conditions: none beyond the given row.
-/
import Derived.Test.YtndapbfaaglcgaaVictimOrderRow
import Derived.Test.YtndapbfaaglcgaaVcInst
namespace Go.Proofs.Ytndapbfaaglcgaa

theorem victimOrder_holds : Rows.VictimOrderSaid := victimOrder_of vops
#print axioms victimOrder_holds
end Go.Proofs.Ytndapbfaaglcgaa
