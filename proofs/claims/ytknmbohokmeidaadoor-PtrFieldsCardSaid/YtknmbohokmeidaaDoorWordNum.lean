/-
  Contracts of layer 1's functions on numbers (word.Add, Mul, Ceil, Signed, clip, and the document's own): each returns what the plain function says, and leaves the world as it was.
-/
import Derived.Test.YtknmbohokmeidaaDoorRows
import Derived.Test.YtknmbohokmeidaaDoorWordMath
import Derived.WalkKit
import Derived.WalkSpells
import Derived.WalkLawsBesides
import Derived.Lib.Hide
namespace Go.Proofs.YtknmbohokmeidaaDoor
open Go.RowKit

set_option maxHeartbeats 400000 in
theorem ceil_any (n d : Int) (w : World) :
    Calls Tryd.prog 32 #[.int .i64 n, .int .i64 d] w fun e w' => e = .returned (.int .i64 (ceilV n d)) ∧ w = w' := by
  by_cases hok : 0 ≤ n ∧ n ≤ 9007199254740992 ∧ 1 ≤ d ∧ d ≤ 9007199254740992
  · obtain ⟨h1, h2, h3, h4⟩ := hok
    obtain ⟨q1, q2, q3, q4, q5, q6, q7⟩ := div_bds h1 h3
    clear q7
    by_cases hr : 0 < n % d
    · go_enter Tryd.func32, Tryd.ntmps32
      go_wp2
      go_ret
      exact ⟨ret_int (ceil_up ⟨h1, h2, h3, h4⟩ hr), rfl⟩
    · go_enter Tryd.func32, Tryd.ntmps32
      go_wp2
      go_ret
      exact ⟨ret_int (ceil_even ⟨h1, h2, h3, h4⟩ (by omega)), rfl⟩
  · have H := Lib.hid hok
    have hc : n < 0 ∨ (0 ≤ n ∧ 9007199254740992 < n) ∨ (0 ≤ n ∧ n ≤ 9007199254740992 ∧ d < 1) ∨ (0 ≤ n ∧ n ≤ 9007199254740992 ∧ 1 ≤ d ∧ 9007199254740992 < d) := by omega
    clear hok
    rcases hc with h | ⟨h, h'⟩ | ⟨h, h', h''⟩ | ⟨h, h', h'', h'''⟩
    all_goals
      go_enter Tryd.func32, Tryd.ntmps32
      go_wp2
      go_ret
      exact ⟨ret_int (ceil_no H.out), rfl⟩

set_option maxHeartbeats 400000 in
/-- clip, where the least is at most the greatest -/
theorem clip_any (n a b : Int) (w : World) (hab : a ≤ b) :
    Calls Tryd.prog 33 #[.int .i64 n, .int .i64 a, .int .i64 b] w fun e w' => e = .returned (.int .i64 (min (max n a) b)) ∧ w = w' := by
  by_cases h1 : n < a
  · go_enter Tryd.func33, Tryd.ntmps33
    go_wp2
    all_goals (go_ret; refine ⟨ret_int ?_, rfl⟩; omega)
  · by_cases h2 : b < n
    all_goals
      go_enter Tryd.func33, Tryd.ntmps33
      go_wp2
      all_goals (go_ret; refine ⟨ret_int ?_, rfl⟩; omega)

set_option maxHeartbeats 400000 in
theorem signed_any (n k : Int) (w : World) :
    Calls Tryd.prog 28 #[.int .u64 n, .int .i64 k] w fun e w' => e = .returned (.int .i64 (sgnV n (clipK k))) ∧ w = w' := by
  obtain ⟨c1, c2⟩ := clipK_bd k
  have hs := Lib.hid (shifted n c1 c2)
  have hcl : min (max k 1) 63 = (clipK k : Int) := by unfold clipK; omega
  have HC := Lib.hid hcl
  clear hcl
  generalize clipK k = j at *
  go_enter Tryd.func28, Tryd.ntmps28
  go_wp2_with fail
  refine (clip_any _ _ _ _ (by omega)).mono ?_
  rintro e w' ⟨rfl, rfl⟩
  rw [HC.out]
  go_wp2
  go_ret
  exact ⟨ret_int hs.out, rfl⟩

set_option maxHeartbeats 400000 in
theorem signedr_any (n k : Int) (w : World) (hn : 0 ≤ n) (hn' : n ≤ 18446744073709551615) :
    Calls Tryd.prog 24 #[.int .u64 n, .int .i64 k] w fun e w' => e = .returned (.int .i64 (sgnV n (clipK k))) ∧ w = w' := by
  obtain ⟨c1, c2⟩ := clipK_bd k
  have hJ : (k ≤ 1 ∧ (clipK k : Int) ≤ 1 ∧ 1 ≤ (clipK k : Int)) ∨ (63 < k ∧ (clipK k : Int) ≤ 63 ∧ 63 ≤ (clipK k : Int)) ∨ (1 < k ∧ k ≤ 63 ∧ (clipK k : Int) ≤ k ∧ k ≤ (clipK k : Int)) := by unfold clipK; omega
  generalize clipK k = J at *
  rcases hJ with ⟨k1, j1, j2⟩ | ⟨k1, j1, j2⟩ | ⟨k1, k2, j1, j2⟩
  all_goals
    go_enter Tryd.func24, Tryd.ntmps24
    go_wp2
    go_loop [5, 6] (fun h i => ∃ t : Nat, 1 ≤ t ∧ t ≤ J ∧ i = .int .i64 t ∧ h = .int .i64 (2 ^ (t - 1))) (fun _ i => J - (intOf i).toNat)
    case atStart => exact ⟨1, by omega, by omega, rfl, rfl⟩
    case round =>
      obtain ⟨t, t1, t2, rfl, rfl⟩ := hrel
      have p1 := pow_pos (t - 1)
      have p2 := pow_le62 (k := t - 1) (by omega)
      by_cases hlt : t < J
      · have HE := Lib.hid (pow_pred (k := t) t1)
        have p3 := pow_le61 (k := t - 1) (by omega)
        generalize (2 : Int) ^ (t - 1) = p at *
        first
          | (exfalso; omega)
          | (go_wp2
             go_round
             case rel => exact ⟨t + 1, by omega, by omega, by go_num, by rw [Nat.add_sub_cancel, HE.out]⟩
             case measure => simp [intOf]; omega)
      · obtain rfl : t = J := by omega
        have q0 := Int.emod_nonneg n (b := 2 * 2 ^ (t - 1)) (by omega)
        have q1 := Int.emod_lt_of_pos n (b := 2 * 2 ^ (t - 1)) (by omega)
        have HE := Lib.hid (pow_pred (k := t) t1)
        have HS : Hid (sgnV n t = if 2 ^ (t - 1) ≤ n % (2 * 2 ^ (t - 1)) then n % (2 * 2 ^ (t - 1)) - 2 ^ (t - 1) - 2 ^ (t - 1) else n % (2 * 2 ^ (t - 1))) := Lib.hid (by unfold sgnV; rw [HE.out]; split <;> omega)
        generalize (2 : Int) ^ (t - 1) = p at *
        by_cases hge : p ≤ n % (2 * p)
        · go_wp2
          go_ret
          exact ⟨ret_int (by rw [HS.out, if_pos hge]), rfl⟩
        · go_wp2
          go_ret
          exact ⟨ret_int (by rw [HS.out, if_neg (by omega)]), rfl⟩

end Go.Proofs.YtknmbohokmeidaaDoor
