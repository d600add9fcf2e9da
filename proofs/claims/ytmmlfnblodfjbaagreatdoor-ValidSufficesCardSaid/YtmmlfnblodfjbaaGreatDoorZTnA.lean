/-
  Layer 10, the document: a decoding in a box.
-/
import Derived.Test.YtmmlfnblodfjbaaGreatDoorZTsB
import Derived.Test.YtmmlfnblodfjbaaGreatDoorZRsA
import Derived.Test.YtmmlfnblodfjbaaGreatDoorZMem
import Derived.Test.YtmmlfnblodfjbaaGreatDoorZTeC
import Derived.Deep.RegionHeldLaw
import Derived.Deep.DeepCutAuto
import Derived.Test.YtmmlfnblodfjbaaGreatDoorZGenC
import Derived.Test.YtmmlfnblodfjbaaGreatDoorZGenA

namespace Go.Proofs.YtmmlfnblodfjbaaGreatDoor
open Go.RowKit Go.Deep

end Go.Proofs.YtmmlfnblodfjbaaGreatDoor

namespace Go.Proofs.YtmmlfnblodfjbaaGreatDoor
open Go.RowKit Go.Deep

end Go.Proofs.YtmmlfnblodfjbaaGreatDoor

namespace Go.Proofs.YtmmlfnblodfjbaaGreatDoor
open Go.RowKit Go.Deep

end Go.Proofs.YtmmlfnblodfjbaaGreatDoor

namespace Go.Proofs.YtmmlfnblodfjbaaGreatDoor
open Go.RowKit Go.Deep

end Go.Proofs.YtmmlfnblodfjbaaGreatDoor
