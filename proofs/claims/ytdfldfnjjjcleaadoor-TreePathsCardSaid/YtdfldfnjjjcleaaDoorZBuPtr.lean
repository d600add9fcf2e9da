/-
  Layer 8, the landed package: encoded, near, far, empty: pointers' words.
-/
import Derived.Test.YtdfldfnjjjcleaaDoorZBuNum
import Derived.Test.YtdfldfnjjjcleaaDoorZPtr

namespace Go.Proofs.YtdfldfnjjjcleaaDoor
open Go.RowKit Go.Deep

end Go.Proofs.YtdfldfnjjjcleaaDoor
