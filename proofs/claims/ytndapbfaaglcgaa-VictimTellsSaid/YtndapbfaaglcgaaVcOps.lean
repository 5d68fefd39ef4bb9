/-
  What the laws ask of the landed victim.Right, Order, Choose: three contracts as one structure (a landed text, VcInst, gives it).
-/
import Derived.Test.YtndapbfaaglcgaaVcD
namespace Go.Proofs.Ytndapbfaaglcgaa
open Go.RowKit

structure VOps : Prop where
  right : ∀ {w : World} {A : Option Addr} {n c : Nat} (p : Int) (l : List VZ) (hl : l.length = n) (hr : RdV w w.heap.size A (zsC l)) (hnc : n ≤ c) (hz : A = none → c = 0) (hn : n ≤ 60) (hp1 : 1 ≤ p) (hp : p ≤ 16), Calls Try.prog 8 #[.int .i64 p, .slice A n c] w (BoolB (VZ.rightL p l) w)
  order : ∀ {w : World} {A : Option Addr} {n c : Nat} (pol p : Int) (l : List VZ) (hl : l.length = n) (hr : RdV w w.heap.size A (zsC l)) (hnc : n ≤ c) (hz : A = none → c = 0) (hn : n ≤ 24) (hp1 : 1 ≤ p) (hp : p ≤ 16) (hf : VZ.Fit p l) (ha : VZ.Apart l) (hg : AgeOk l), Calls Try.prog 13 #[.int .i64 pol, .int .i64 p, .slice A n c] w (IdsIs (VZ.ids (VZ.sortZ pol p l)) w)
  choose : ∀ {w : World} {A : Option Addr} {n c : Nat} (pol p extra : Int) (l : List VZ) (hl : l.length = n) (hr : RdV w w.heap.size A (zsC l)) (hnc : n ≤ c) (hz : A = none → c = 0) (hn : n ≤ 24) (hp1 : 1 ≤ p) (hp : p ≤ 16) (he0 : 0 ≤ extra) (he1 : extra ≤ 16) (hf : VZ.Fit p l) (ha : VZ.Apart l) (hg : AgeOk l), Calls Try.prog 16 #[.int .i64 pol, .int .i64 p, .int .i64 extra, .slice A n c] w (IdsIs (VZ.chooseL pol p extra l) w)
end Go.Proofs.Ytndapbfaaglcgaa
