/-
  PROVED: for every input, platelayerlaw12.VictimGains returns true, leaves its arguments as they were, and ends without a panic.
  Conditions: none beyond the given row.
-/
import Derived.Test.YtndapbfaaglcgaaVictimGainsRow
import Derived.Test.YtndapbfaaglcgaaVcInst
namespace Go.Proofs.Ytndapbfaaglcgaa

theorem victimGains_holds : Rows.VictimGainsSaid := victimGains_of vops
#print axioms victimGains_holds
end Go.Proofs.Ytndapbfaaglcgaa
