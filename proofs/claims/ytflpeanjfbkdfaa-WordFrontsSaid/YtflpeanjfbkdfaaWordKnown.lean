/-
  The head of each law of layer 1: the chapter's examples hold ('known' returns true), and nothing that was there is written.
-/
import Derived.Test.YtflpeanjfbkdfaaWordBytes
namespace Go.Proofs.Ytflpeanjfbkdfaa
open Go.RowKit Go.Deep

set_option maxHeartbeats 400000 in
theorem known_any (w : World) : Calls Try.prog 11 #[] w fun e w' => e = .returned (.bool true) ∧ Below w.heap.size w w' := by
  go_enter Try.func11, Try.ntmps11
  go_wp2_with fail
  refine (put_row 258 3 _).mono ?_
  rintro e w1 ⟨rfl, hrow, hB⟩
  have c0 : w1.cell? ⟨w.heap.size, 0, none⟩ = some (.int .u8 2) := hrow.cell (by decide)
  have c1 : w1.cell? ⟨w.heap.size, 1, none⟩ = some (.int .u8 1) := hrow.cell (by decide)
  rw [show clip8 3 = 3 from rfl]
  clear hrow
  go_wp2_with fail
  refine (add_any 5 6 10 _ (by omega) (by omega) (by omega) (by omega) (by omega) (by omega)).mono ?_
  rintro e w' ⟨rfl, rfl⟩
  rw [show addV 5 6 10 = 0 from rfl, show addB 5 6 10 = false from rfl]
  go_wp2_with fail
  refine (add_any 4 6 10 _ (by omega) (by omega) (by omega) (by omega) (by omega) (by omega)).mono ?_
  rintro e w' ⟨rfl, rfl⟩
  rw [show addV 4 6 10 = 10 from rfl, show addB 4 6 10 = true from rfl]
  go_wp2_with fail
  refine (signed_any 7 3 _).mono ?_
  rintro e w' ⟨rfl, rfl⟩
  rw [show sgnV 7 (clipK 3) = -1 from rfl]
  go_wp2_with fail
  refine (ceil_any 9 8 _).mono ?_
  rintro e w' ⟨rfl, rfl⟩
  rw [show ceilV 9 8 = 2 from rfl]
  go_wp2
  go_ret
  exact ⟨rfl, hB⟩

end Go.Proofs.Ytflpeanjfbkdfaa
