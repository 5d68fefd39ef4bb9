/-
  The document's Tables, Bound and Right; geo.Log, near and Right.
-/
import Derived.Test.YthmpimjmajoimaaGreatDoorSm03
import Derived.Test.YthmpimjmajoimaaGreatDoorSm02
import Derived.Test.YthmpimjmajoimaaGreatDoorSm19
import Derived.Test.YthmpimjmajoimaaGreatDoorGeoA
import Derived.Deep.RegionHeld3
import Derived.Deep.QuietTactic
import Derived.BigQuiet
namespace Go.Proofs.YthmpimjmajoimaaGreatDoor
open Go.RowKit

def BoolBq1 (b : Bool) (w : World) (r : Ending) (w' : World) : Prop := r = .returned (.bool b) ∧ Below w.heap.size w w'
theorem log_is (z p b : Int) (w : World) (h1 : -9223372036854775806 ≤ z) (h2 : z ≤ 9223372036854775807) : Calls Tryz.prog 32 #[.agg #[.int .i64 z, .int .i64 p, .int .i64 b]] w (IntB (z - 2) w) := by
  go_enter Tryz.func32, Tryz.ntmps32
  go_wp2_with fail
  go_ret
  exact ⟨rfl, (Below.refl _ _).alloc (Nat.le_refl _) _⟩
end Go.Proofs.YthmpimjmajoimaaGreatDoor
