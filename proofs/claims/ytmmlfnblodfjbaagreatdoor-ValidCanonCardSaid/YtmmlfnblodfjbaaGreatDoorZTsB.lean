/-
  Layer 9, the document: Follow: where the word points to something near.
-/
import Derived.Test.YtmmlfnblodfjbaaGreatDoorZRsA
import Derived.Deep.RegionHeldLaw
import Derived.Deep.DeepCutAuto

namespace Go.Proofs.YtmmlfnblodfjbaaGreatDoor
open Go.RowKit Go.Deep

end Go.Proofs.YtmmlfnblodfjbaaGreatDoor

namespace Go.Proofs.YtmmlfnblodfjbaaGreatDoor
open Go.RowKit Go.Deep

end Go.Proofs.YtmmlfnblodfjbaaGreatDoor

namespace Go.Proofs.YtmmlfnblodfjbaaGreatDoor
open Go.RowKit Go.Deep

end Go.Proofs.YtmmlfnblodfjbaaGreatDoor
