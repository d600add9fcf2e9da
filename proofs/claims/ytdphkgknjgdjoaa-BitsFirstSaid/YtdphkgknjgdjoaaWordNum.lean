/-
  Contracts of layer 1's functions on numbers (word.Add, Mul, Ceil, Signed, clip, and the document's own): each returns what the plain function says, and leaves the world as it was.
-/
import Derived.Test.YtdphkgknjgdjoaaRows
import Derived.Test.YtdphkgknjgdjoaaWordMath
import Derived.WalkKit
import Derived.WalkSpells
import Derived.WalkLawsBesides
import Derived.Lib.Hide
namespace Go.Proofs.Ytdphkgknjgdjoaa
open Go.RowKit

set_option maxHeartbeats 400000 in
theorem ceil_any (n d : Int) (w : World) :
    Calls Try.prog 35 #[.int .i64 n, .int .i64 d] w fun e w' => e = .returned (.int .i64 (ceilV n d)) ∧ w = w' := by
  by_cases hok : 0 ≤ n ∧ n ≤ 9007199254740992 ∧ 1 ≤ d ∧ d ≤ 9007199254740992
  · obtain ⟨h1, h2, h3, h4⟩ := hok
    obtain ⟨q1, q2, q3, q4, q5, q6, q7⟩ := div_bds h1 h3
    clear q7
    by_cases hr : 0 < n % d
    · go_enter Try.func35, Try.ntmps35
      go_wp2
      go_ret
      exact ⟨ret_int (ceil_up ⟨h1, h2, h3, h4⟩ hr), rfl⟩
    · go_enter Try.func35, Try.ntmps35
      go_wp2
      go_ret
      exact ⟨ret_int (ceil_even ⟨h1, h2, h3, h4⟩ (by omega)), rfl⟩
  · have H := Lib.hid hok
    have hc : n < 0 ∨ (0 ≤ n ∧ 9007199254740992 < n) ∨ (0 ≤ n ∧ n ≤ 9007199254740992 ∧ d < 1) ∨ (0 ≤ n ∧ n ≤ 9007199254740992 ∧ 1 ≤ d ∧ 9007199254740992 < d) := by omega
    clear hok
    rcases hc with h | ⟨h, h'⟩ | ⟨h, h', h''⟩ | ⟨h, h', h'', h'''⟩
    all_goals
      go_enter Try.func35, Try.ntmps35
      go_wp2
      go_ret
      exact ⟨ret_int (ceil_no H.out), rfl⟩

set_option maxHeartbeats 400000 in
theorem ceilr_any (n d : Int) (w : World) :
    Calls Try.prog 34 #[.int .i64 n, .int .i64 d] w fun e w' => e = .returned (.int .i64 (ceilV n d)) ∧ w = w' := by
  by_cases hok : 0 ≤ n ∧ n ≤ 9007199254740992 ∧ 1 ≤ d ∧ d ≤ 9007199254740992
  · obtain ⟨h1, h2, h3, h4⟩ := hok
    obtain ⟨q1, q2, q3, q4, q5, q6, q7⟩ := div_bds h1 h3
    by_cases hr : 0 < n % d
    · have hlt : n / d * d < n := by omega
      clear q7
      go_enter Try.func34, Try.ntmps34
      go_wp2
      go_ret
      exact ⟨ret_int (ceil_up ⟨h1, h2, h3, h4⟩ hr), rfl⟩
    · have hlt : n ≤ n / d * d := by omega
      clear q7
      go_enter Try.func34, Try.ntmps34
      go_wp2
      go_ret
      exact ⟨ret_int (ceil_even ⟨h1, h2, h3, h4⟩ (by omega)), rfl⟩
  · have H := Lib.hid hok
    have hc : n < 0 ∨ (0 ≤ n ∧ 9007199254740992 < n) ∨ (0 ≤ n ∧ n ≤ 9007199254740992 ∧ d < 1) ∨ (0 ≤ n ∧ n ≤ 9007199254740992 ∧ 1 ≤ d ∧ 9007199254740992 < d) := by omega
    clear hok
    rcases hc with h | ⟨h, h'⟩ | ⟨h, h', h''⟩ | ⟨h, h', h'', h'''⟩
    all_goals
      go_enter Try.func34, Try.ntmps34
      go_wp2
      go_ret
      exact ⟨ret_int (ceil_no H.out), rfl⟩

end Go.Proofs.Ytdphkgknjgdjoaa
