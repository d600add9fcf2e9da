/-
  Layer 8: the law's Tree, whatever the choices.
-/
import Derived.Test.YtdfldfnjjjcleaaDoorZGenA
import Derived.Test.YtdfldfnjjjcleaaDoorZGenC

namespace Go.Proofs.YtdfldfnjjjcleaaDoor
open Go.RowKit Go.Deep

theorem tree_all : (d : Nat) → d ≤ 1000 → TreeS d
  | 0, _ => fun c v w B hB h _ => tree_none 0 c v w B hB h (.inr rfl)
  | d+1, hd => by
    intro c v w B hB h hc
    cases c with
    | nil => exact tree_none (d + 1) [] v w B hB h (.inl rfl)
    | cons k r =>
      have hk := hc k (List.mem_cons_self ..)
      have hr : AllB r := fun x hx => hc x (List.mem_cons_of_mem _ hx)
      obtain ⟨K, rfl⟩ := Int.eq_ofNat_of_zero_le hk.1
      have hK : K ≤ 255 := by omega
      have ih := tree_all d (by omega)
      rw [Int.natCast_add]
      rcases (show (K : Int) % 8 = 0 ∨ ((K : Int) % 8 = 1 ∨ (K : Int) % 8 = 2) ∨ (K : Int) % 8 = 3 ∨ (K : Int) % 8 = 7 ∨ ((K : Int) % 8 = 4 ∨ (K : Int) % 8 = 5 ∨ (K : Int) % 8 = 6) by omega) with hq | hq | hq | hq | hq
      · exact tree_null d (by omega) K hK r v w B hB h hr hq
      · exact tree_bytes d (by omega) K hK r v w B hB h hr hq
      · exact tree_words d (by omega) K hK r v w B hB h hr hq
      · exact tree_list d (by omega) ih K hK r v w B hB h hr hq
      · exact tree_struct d (by omega) ih K hK r v w B hB h hr hq

end Go.Proofs.YtdfldfnjjjcleaaDoor
