/-
  Layer 10: the law TreeBack.
-/
import Derived.Test.YtdfldfnjjjcleaaDoorZTeKnown
import Derived.Test.YtdfldfnjjjcleaaDoorZGenZ

namespace Go.Proofs.YtdfldfnjjjcleaaDoor
open Go.RowKit Go.Deep

mutual
theorem same10_refl : (t : Tr) → sameT t t = true
  | .mk k z w b ks => by
    unfold sameT
    rw [sameAll10_refl ks]
    simp
theorem sameAll10_refl : (l : List Tr) → sameAll l l = true
  | [] => rfl
  | t :: r => by
    unfold sameAll
    rw [same10_refl t, sameAll10_refl r]
    rfl
end
end Go.Proofs.YtdfldfnjjjcleaaDoor
