/-
  Contracts of layer 1's functions on numbers (word.Add, Mul, Ceil, Signed, clip, and the document's own): each returns what the plain function says, and leaves the world as it was.
-/
import Derived.Test.YtgemllmfbglkhaaRows
import Derived.Test.YtgemllmfbglkhaaWordMath
import Derived.WalkKit
import Derived.WalkSpells
import Derived.WalkLawsBesides
import Derived.Lib.Hide
namespace Go.Proofs.Ytgemllmfbglkhaa
open Go.RowKit

set_option maxHeartbeats 400000 in
/-- clip, where the least is at most the greatest -/
theorem clip_any (n a b : Int) (w : World) (hab : a ≤ b) :
    Calls Try.prog 30 #[.int .i64 n, .int .i64 a, .int .i64 b] w fun e w' => e = .returned (.int .i64 (min (max n a) b)) ∧ w = w' := by
  by_cases h1 : n < a
  · go_enter Try.func30, Try.ntmps30
    go_wp2
    all_goals (go_ret; refine ⟨ret_int ?_, rfl⟩; omega)
  · by_cases h2 : b < n
    all_goals
      go_enter Try.func30, Try.ntmps30
      go_wp2
      all_goals (go_ret; refine ⟨ret_int ?_, rfl⟩; omega)

end Go.Proofs.Ytgemllmfbglkhaa
