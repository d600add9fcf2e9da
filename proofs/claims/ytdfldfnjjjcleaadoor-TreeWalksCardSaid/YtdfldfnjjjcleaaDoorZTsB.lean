/-
  Layer 9, the document: Follow: where the word points to something near.
-/
import Derived.Test.YtdfldfnjjjcleaaDoorZRsA
import Derived.Deep.RegionHeldLaw
import Derived.Deep.DeepCutAuto

namespace Go.Proofs.YtdfldfnjjjcleaaDoor
open Go.RowKit Go.Deep

end Go.Proofs.YtdfldfnjjjcleaaDoor

namespace Go.Proofs.YtdfldfnjjjcleaaDoor
open Go.RowKit Go.Deep

end Go.Proofs.YtdfldfnjjjcleaaDoor

namespace Go.Proofs.YtdfldfnjjjcleaaDoor
open Go.RowKit Go.Deep

theorem srA_good {ls : List (List Int)} (hs : ls.length ≤ 1000000000) (hu : AllU ls) (h64 : All64 (sizesL ls)) : (srA ls).Good :=
  ⟨fun g a => wordA_in hu g a, fun g a => by show 0 ≤ wordE7 ls g a ∧ wordE7 ls g a ≤ 65535; unfold wordE7; split <;> omega, h64, by show (sizesL ls).length ≤ _; rw [sizesL_length]; exact hs⟩
end Go.Proofs.YtdfldfnjjjcleaaDoor
