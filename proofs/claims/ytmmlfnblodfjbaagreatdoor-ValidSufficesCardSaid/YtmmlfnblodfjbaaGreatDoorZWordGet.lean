/-
  word.Get: bytes are gone through backwards by slices.Backward (a range over a function). The iterator's contract, and Get's: of a row of bytes it returns the number whose bytes the first eight are, and writes nothing that was there.
-/
import Derived.RangeFuncNested
import Derived.RangeFuncBound
import Derived.RangeFuncCalls
import Derived.RangeFuncLeaves
import Derived.RangeFuncBox
import Derived.Shelf.Abstract
import Derived.Shelf.RegionOpen
import Derived.WalkKit
import Derived.OwnWalkIn
import Derived.TacticsInMore
import Derived.LoopNIn
import Derived.LoopIn
import Derived.Test.YtmmlfnblodfjbaaGreatDoorZWord

namespace Go.Proofs.YtmmlfnblodfjbaaGreatDoor
open Go.RowKit Go.Shelf

attribute [local go_sem] Oper.semAt_some

/-- what has come when k rounds are over: from the last index down -/
def back (l : List Int) (k : Nat) : List (Int × Int) := (List.range k).map (fun (j : Nat) => ((l.length : Int) - 1 - j, l[l.length - 1 - j]?.getD 0))
/-! ### what it comes to -/
end Go.Proofs.YtmmlfnblodfjbaaGreatDoor
