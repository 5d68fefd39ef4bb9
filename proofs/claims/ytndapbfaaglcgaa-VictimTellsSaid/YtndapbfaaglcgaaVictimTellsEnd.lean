/-
  PROVED: for every input, platelayerlaw12.VictimTells returns true, leaves its arguments as they were, and ends without a panic.
  Conditions: none beyond the given row.
-/
import Derived.Test.YtndapbfaaglcgaaVictimTellsRow
import Derived.Test.YtndapbfaaglcgaaVcInst
namespace Go.Proofs.Ytndapbfaaglcgaa

theorem victimTells_holds : Rows.VictimTellsSaid := victimTells_of vops
#print axioms victimTells_holds
end Go.Proofs.Ytndapbfaaglcgaa
