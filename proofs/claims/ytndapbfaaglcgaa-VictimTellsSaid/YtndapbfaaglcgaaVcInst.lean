/-
  victim's Right, Order, Choose keep what the laws ask.
-/
import Derived.Test.YtndapbfaaglcgaaVyG
import Derived.Test.YtndapbfaaglcgaaVyO
import Derived.Test.YtndapbfaaglcgaaVcOps
namespace Go.Proofs.Ytndapbfaaglcgaa
open Go.RowKit

theorem vops : VOps where
  right := fun p l hl hr hnc hz hn _ _ => vyright_at p l hl hr hnc hz hn
  order := fun pol p l hl hr hnc hz hn hp1 hp hf ha hg => vyorder_at pol p l hl hr hnc hz hn hp1 hp hf ha hg
  choose := fun pol p extra l hl hr hnc hz hn hp1 hp he0 he1 hf ha hg => vychoose_at pol p extra l hl hr hnc hz hn hp1 hp he0 he1 hf ha hg
end Go.Proofs.Ytndapbfaaglcgaa
