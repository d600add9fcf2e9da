/-
  Layer 9, the document: Follow: where the word points to something near.
-/
import Derived.Test.YtdfldfnjjjcleaaDoorZRsA
import Derived.Deep.RegionHeldLaw
import Derived.Deep.DeepCutAuto

namespace Go.Proofs.YtdfldfnjjjcleaaDoor
open Go.RowKit Go.Deep

end Go.Proofs.YtdfldfnjjjcleaaDoor

namespace Go.Proofs.YtdfldfnjjjcleaaDoor
open Go.RowKit Go.Deep

end Go.Proofs.YtdfldfnjjjcleaaDoor

namespace Go.Proofs.YtdfldfnjjjcleaaDoor
open Go.RowKit Go.Deep

end Go.Proofs.YtdfldfnjjjcleaaDoor
