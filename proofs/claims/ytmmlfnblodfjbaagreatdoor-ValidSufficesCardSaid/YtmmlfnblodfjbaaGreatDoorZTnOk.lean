/-
  Layer 10, the document: node: where the word leads to something.
-/
import Derived.Test.YtmmlfnblodfjbaaGreatDoorZTnA
import Derived.Deep.RegionHeldLaw
import Derived.Deep.DeepCutAuto
import Derived.Deep.CutBlock
import Derived.BigRegion

namespace Go.Proofs.YtmmlfnblodfjbaaGreatDoor
open Go.RowKit Go.Deep

end Go.Proofs.YtmmlfnblodfjbaaGreatDoor
