/-
  What geo's functions of numbers answer: Table, Tables, nearZones, nearPages, room, Bound; and the document's Tables and Bound.
-/
import Derived.Test.YthmpimjmajoimaaGreatDoorSm03
import Derived.Test.YthmpimjmajoimaaGreatDoorSm01
import Derived.Test.YthmpimjmajoimaaGreatDoorSm19
import Derived.Test.YthmpimjmajoimaaGreatDoorChecked
import Derived.Test.YthmpimjmajoimaaGreatDoorSm18
import Derived.WalkKit
import Derived.WalkLawsBesides
import Derived.Below
import Derived.Outline
import Derived.Lib.Hide
import Derived.Deep.LoopGhost
namespace Go.Proofs.YthmpimjmajoimaaGreatDoor
open Go.RowKit

end Go.Proofs.YthmpimjmajoimaaGreatDoor
