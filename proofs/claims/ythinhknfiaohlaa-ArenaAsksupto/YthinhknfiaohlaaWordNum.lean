/-
  Contracts of layer 1's functions on numbers (word.Add, Mul, Ceil, Signed, clip, and the document's own): each returns what the plain function says, and leaves the world as it was.
-/
import Derived.Test.YthinhknfiaohlaaRows
import Derived.Test.YthinhknfiaohlaaWordMath
import Derived.WalkKit
import Derived.WalkSpells
import Derived.WalkLawsBesides
import Derived.Lib.Hide
namespace Go.Proofs.Ythinhknfiaohlaa
open Go.RowKit

set_option maxHeartbeats 400000 in
theorem add_any (a b m : Int) (w : World) (ha : -9223372036854775808 ≤ a) (ha' : a ≤ 9223372036854775807) (hb : -9223372036854775808 ≤ b) (hb' : b ≤ 9223372036854775807) (hm : -9223372036854775808 ≤ m) (hm' : m ≤ 9223372036854775807) :
    Calls Try.prog 45 #[.int .i64 a, .int .i64 b, .int .i64 m] w fun e w' => e = .returned (.tuple #[.int .i64 (addV a b m), .bool (addB a b m)]) ∧ w = w' := by
  go_enter Try.func45, Try.ntmps45
  go_wp2
  all_goals (go_ret2; first | (refine ⟨add_yes ?_, rfl⟩; omega) | (refine ⟨add_no ?_, rfl⟩; omega))

set_option maxHeartbeats 400000 in
/-- clip, where the least is at most the greatest -/
theorem clip_any (n a b : Int) (w : World) (hab : a ≤ b) :
    Calls Try.prog 48 #[.int .i64 n, .int .i64 a, .int .i64 b] w fun e w' => e = .returned (.int .i64 (min (max n a) b)) ∧ w = w' := by
  by_cases h1 : n < a
  · go_enter Try.func48, Try.ntmps48
    go_wp2
    all_goals (go_ret; refine ⟨ret_int ?_, rfl⟩; omega)
  · by_cases h2 : b < n
    all_goals
      go_enter Try.func48, Try.ntmps48
      go_wp2
      all_goals (go_ret; refine ⟨ret_int ?_, rfl⟩; omega)

end Go.Proofs.Ythinhknfiaohlaa
