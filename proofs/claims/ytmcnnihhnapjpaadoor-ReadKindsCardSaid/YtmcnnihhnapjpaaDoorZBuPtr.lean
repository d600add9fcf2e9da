/-
  Layer 8, the landed package: encoded, near, far, empty: pointers' words.
-/
import Derived.Test.YtmcnnihhnapjpaaDoorZBuNum
import Derived.Test.YtmcnnihhnapjpaaDoorZPtr

namespace Go.Proofs.YtmcnnihhnapjpaaDoor
open Go.RowKit Go.Deep

end Go.Proofs.YtmcnnihhnapjpaaDoor
