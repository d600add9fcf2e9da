/-
  Contracts of layer 1's functions on numbers (word.Add, Mul, Ceil, Signed, clip, and the document's own): each returns what the plain Lean function says, and leaves the world as it was.
-/
import Derived.Test.YtflpeanjfbkdfaaRows
import Derived.Test.YtflpeanjfbkdfaaWordMath
import Derived.WalkKit
import Derived.WalkSpells
import Derived.WalkLawsBesides
import Derived.Lib.Hide
namespace Go.Proofs.Ytflpeanjfbkdfaa
open Go.RowKit

set_option maxHeartbeats 400000 in
theorem add_any (a b m : Int) (w : World) (ha : -9223372036854775808 ≤ a) (ha' : a ≤ 9223372036854775807) (hb : -9223372036854775808 ≤ b) (hb' : b ≤ 9223372036854775807) (hm : -9223372036854775808 ≤ m) (hm' : m ≤ 9223372036854775807) :
    Calls Try.prog 21 #[.int .i64 a, .int .i64 b, .int .i64 m] w fun e w' => e = .returned (.tuple #[.int .i64 (addV a b m), .bool (addB a b m)]) ∧ w = w' := by
  go_enter Try.func21, Try.ntmps21
  go_wp2
  all_goals (go_ret2; first | (refine ⟨add_yes ?_, rfl⟩; omega) | (refine ⟨add_no ?_, rfl⟩; omega))

set_option maxHeartbeats 400000 in
theorem addr_any (a b m : Int) (w : World) (ha : -9223372036854775808 ≤ a) (ha' : a ≤ 9223372036854775807) (hb : -9223372036854775808 ≤ b) (hb' : b ≤ 9223372036854775807) (hm : -9223372036854775808 ≤ m) (hm' : m ≤ 9223372036854775807) :
    Calls Try.prog 25 #[.int .i64 a, .int .i64 b, .int .i64 m] w fun e w' => e = .returned (.tuple #[.int .i64 (addV a b m), .bool (addB a b m)]) ∧ w = w' := by
  go_enter Try.func25, Try.ntmps25
  go_wp2
  all_goals (go_ret2; first | (refine ⟨add_yes ?_, rfl⟩; omega) | (refine ⟨add_no ?_, rfl⟩; omega))

set_option maxHeartbeats 400000 in
theorem mul_any (a b m : Int) (w : World) (ha : -9223372036854775808 ≤ a) (ha' : a ≤ 9223372036854775807) (hb : -9223372036854775808 ≤ b) (hb' : b ≤ 9223372036854775807) (hm : -9223372036854775808 ≤ m) (hm' : m ≤ 9223372036854775807) :
    Calls Try.prog 22 #[.int .i64 a, .int .i64 b, .int .i64 m] w fun e w' => e = .returned (.tuple #[.int .i64 (mulV a b m), .bool (mulB a b m)]) ∧ w = w' := by
  by_cases hneg : a < 0 ∨ b < 0 ∨ m < 0
  · have hn : ¬ (0 ≤ a ∧ 0 ≤ b ∧ a * b ≤ m) := by
      rintro ⟨h1, h2, h3⟩
      have := mul_nonneg h1 h2
      omega
    have H := Lib.hid hn
    clear hn
    rcases hneg with h | h | h
    all_goals
      go_enter Try.func22, Try.ntmps22
      go_wp2
      all_goals (go_ret2; exact ⟨mul_no H.out, rfl⟩)
  · have h1 : 0 ≤ a := by omega
    have h2 : 0 ≤ b := by omega
    have h3 : 0 ≤ m := by omega
    clear hneg
    by_cases hb0 : b = 0
    · subst hb0
      go_enter Try.func22, Try.ntmps22
      go_wp2
      go_ret2
      exact ⟨mul_zero_r ⟨h1, h3⟩, rfl⟩
    · have hbp : 0 < b := by omega
      clear hb0
      have hab := mul_nonneg h1 h2
      by_cases hle : a * b ≤ m
      · have hd := (le_div hbp).2 hle
        have hq : 0 ≤ m / b := by omega
        go_enter Try.func22, Try.ntmps22
        go_wp2
        go_ret2
        exact ⟨mul_yes ⟨h1, h2, hle⟩, rfl⟩
      · have hd := (lt_div hbp).2 (by omega : m < a * b)
        have hq := Int.ediv_nonneg h3 h2
        go_enter Try.func22, Try.ntmps22
        go_wp2
        go_ret2
        exact ⟨mul_no (fun h => by omega), rfl⟩

set_option maxHeartbeats 400000 in
theorem mulr_any (a b m : Int) (w : World) (ha : -9223372036854775808 ≤ a) (ha' : a ≤ 9223372036854775807) (hb : -9223372036854775808 ≤ b) (hb' : b ≤ 9223372036854775807) (hm : -9223372036854775808 ≤ m) (hm' : m ≤ 9223372036854775807) :
    Calls Try.prog 26 #[.int .i64 a, .int .i64 b, .int .i64 m] w fun e w' => e = .returned (.tuple #[.int .i64 (mulV a b m), .bool (mulB a b m)]) ∧ w = w' := by
  by_cases hneg : a < 0 ∨ b < 0 ∨ m < 0
  · have hn : ¬ (0 ≤ a ∧ 0 ≤ b ∧ a * b ≤ m) := by
      rintro ⟨h1, h2, h3⟩
      have := mul_nonneg h1 h2
      omega
    have H := Lib.hid hn
    clear hn
    rcases hneg with h | h | h
    all_goals
      go_enter Try.func26, Try.ntmps26
      go_wp2
      all_goals (go_ret2; exact ⟨mul_no H.out, rfl⟩)
  · have h1 : 0 ≤ a := by omega
    have h2 : 0 ≤ b := by omega
    have h3 : 0 ≤ m := by omega
    clear hneg
    by_cases hb0 : a = 0
    · subst hb0
      go_enter Try.func26, Try.ntmps26
      go_wp2
      go_ret2
      exact ⟨mul_zero_l ⟨h2, h3⟩, rfl⟩
    · have hap : 0 < a := by omega
      clear hb0
      have hab := mul_nonneg h1 h2
      by_cases hle : a * b ≤ m
      · have hd := (le_div hap).2 (by rw [Int.mul_comm]; exact hle : b * a ≤ m)
        have hq : 0 ≤ m / a := by omega
        go_enter Try.func26, Try.ntmps26
        go_wp2
        go_ret2
        exact ⟨mul_yes ⟨h1, h2, hle⟩, rfl⟩
      · have hd := (lt_div hap).2 (by rw [Int.mul_comm]; omega : m < b * a)
        have hq := Int.ediv_nonneg h3 h1
        go_enter Try.func26, Try.ntmps26
        go_wp2
        go_ret2
        exact ⟨mul_no (fun h => by omega), rfl⟩

set_option maxHeartbeats 400000 in
theorem ceil_any (n d : Int) (w : World) :
    Calls Try.prog 17 #[.int .i64 n, .int .i64 d] w fun e w' => e = .returned (.int .i64 (ceilV n d)) ∧ w = w' := by
  by_cases hok : 0 ≤ n ∧ n ≤ 9007199254740992 ∧ 1 ≤ d ∧ d ≤ 9007199254740992
  · obtain ⟨h1, h2, h3, h4⟩ := hok
    obtain ⟨q1, q2, q3, q4, q5, q6, q7⟩ := div_bds h1 h3
    clear q7
    by_cases hr : 0 < n % d
    · go_enter Try.func17, Try.ntmps17
      go_wp2
      go_ret
      exact ⟨ret_int (ceil_up ⟨h1, h2, h3, h4⟩ hr), rfl⟩
    · go_enter Try.func17, Try.ntmps17
      go_wp2
      go_ret
      exact ⟨ret_int (ceil_even ⟨h1, h2, h3, h4⟩ (by omega)), rfl⟩
  · have H := Lib.hid hok
    have hc : n < 0 ∨ (0 ≤ n ∧ 9007199254740992 < n) ∨ (0 ≤ n ∧ n ≤ 9007199254740992 ∧ d < 1) ∨ (0 ≤ n ∧ n ≤ 9007199254740992 ∧ 1 ≤ d ∧ 9007199254740992 < d) := by omega
    clear hok
    rcases hc with h | ⟨h, h'⟩ | ⟨h, h', h''⟩ | ⟨h, h', h'', h'''⟩
    all_goals
      go_enter Try.func17, Try.ntmps17
      go_wp2
      go_ret
      exact ⟨ret_int (ceil_no H.out), rfl⟩

set_option maxHeartbeats 400000 in
theorem ceilr_any (n d : Int) (w : World) :
    Calls Try.prog 18 #[.int .i64 n, .int .i64 d] w fun e w' => e = .returned (.int .i64 (ceilV n d)) ∧ w = w' := by
  by_cases hok : 0 ≤ n ∧ n ≤ 9007199254740992 ∧ 1 ≤ d ∧ d ≤ 9007199254740992
  · obtain ⟨h1, h2, h3, h4⟩ := hok
    obtain ⟨q1, q2, q3, q4, q5, q6, q7⟩ := div_bds h1 h3
    by_cases hr : 0 < n % d
    · have hlt : n / d * d < n := by omega
      clear q7
      go_enter Try.func18, Try.ntmps18
      go_wp2
      go_ret
      exact ⟨ret_int (ceil_up ⟨h1, h2, h3, h4⟩ hr), rfl⟩
    · have hlt : n ≤ n / d * d := by omega
      clear q7
      go_enter Try.func18, Try.ntmps18
      go_wp2
      go_ret
      exact ⟨ret_int (ceil_even ⟨h1, h2, h3, h4⟩ (by omega)), rfl⟩
  · have H := Lib.hid hok
    have hc : n < 0 ∨ (0 ≤ n ∧ 9007199254740992 < n) ∨ (0 ≤ n ∧ n ≤ 9007199254740992 ∧ d < 1) ∨ (0 ≤ n ∧ n ≤ 9007199254740992 ∧ 1 ≤ d ∧ 9007199254740992 < d) := by omega
    clear hok
    rcases hc with h | ⟨h, h'⟩ | ⟨h, h', h''⟩ | ⟨h, h', h'', h'''⟩
    all_goals
      go_enter Try.func18, Try.ntmps18
      go_wp2
      go_ret
      exact ⟨ret_int (ceil_no H.out), rfl⟩

set_option maxHeartbeats 400000 in
/-- clip, where the least is at most the greatest -/
theorem clip_any (n a b : Int) (w : World) (hab : a ≤ b) :
    Calls Try.prog 23 #[.int .i64 n, .int .i64 a, .int .i64 b] w fun e w' => e = .returned (.int .i64 (min (max n a) b)) ∧ w = w' := by
  by_cases h1 : n < a
  · go_enter Try.func23, Try.ntmps23
    go_wp2
    all_goals (go_ret; refine ⟨ret_int ?_, rfl⟩; omega)
  · by_cases h2 : b < n
    all_goals
      go_enter Try.func23, Try.ntmps23
      go_wp2
      all_goals (go_ret; refine ⟨ret_int ?_, rfl⟩; omega)

set_option maxHeartbeats 400000 in
theorem signed_any (n k : Int) (w : World) :
    Calls Try.prog 19 #[.int .u64 n, .int .i64 k] w fun e w' => e = .returned (.int .i64 (sgnV n (clipK k))) ∧ w = w' := by
  obtain ⟨c1, c2⟩ := clipK_bd k
  have hs := Lib.hid (shifted n c1 c2)
  have hcl : min (max k 1) 63 = (clipK k : Int) := by unfold clipK; omega
  have HC := Lib.hid hcl
  clear hcl
  generalize clipK k = j at *
  go_enter Try.func19, Try.ntmps19
  go_wp2_with fail
  refine (clip_any _ _ _ _ (by omega)).mono ?_
  rintro e w' ⟨rfl, rfl⟩
  rw [HC.out]
  go_wp2
  go_ret
  exact ⟨ret_int hs.out, rfl⟩

set_option maxHeartbeats 400000 in
theorem signedr_any (n k : Int) (w : World) (hn : 0 ≤ n) (hn' : n ≤ 18446744073709551615) :
    Calls Try.prog 20 #[.int .u64 n, .int .i64 k] w fun e w' => e = .returned (.int .i64 (sgnV n (clipK k))) ∧ w = w' := by
  obtain ⟨c1, c2⟩ := clipK_bd k
  have hJ : (k ≤ 1 ∧ (clipK k : Int) ≤ 1 ∧ 1 ≤ (clipK k : Int)) ∨ (63 < k ∧ (clipK k : Int) ≤ 63 ∧ 63 ≤ (clipK k : Int)) ∨ (1 < k ∧ k ≤ 63 ∧ (clipK k : Int) ≤ k ∧ k ≤ (clipK k : Int)) := by unfold clipK; omega
  generalize clipK k = J at *
  rcases hJ with ⟨k1, j1, j2⟩ | ⟨k1, j1, j2⟩ | ⟨k1, k2, j1, j2⟩
  all_goals
    go_enter Try.func20, Try.ntmps20
    go_wp2
    go_loop [5, 6] (fun h i => ∃ t : Nat, 1 ≤ t ∧ t ≤ J ∧ i = .int .i64 t ∧ h = .int .i64 (2 ^ (t - 1))) (fun _ i => J - (intOf i).toNat)
    case atStart => exact ⟨1, by omega, by omega, rfl, rfl⟩
    case round =>
      obtain ⟨t, t1, t2, rfl, rfl⟩ := hrel
      have p1 := pow_pos (t - 1)
      have p2 := pow_le62 (k := t - 1) (by omega)
      by_cases hlt : t < J
      · have HE := Lib.hid (pow_pred (k := t) t1)
        have p3 := pow_le61 (k := t - 1) (by omega)
        generalize (2 : Int) ^ (t - 1) = p at *
        first
          | (exfalso; omega)
          | (go_wp2
             go_round
             case rel => exact ⟨t + 1, by omega, by omega, by go_num, by rw [Nat.add_sub_cancel, HE.out]⟩
             case measure => simp [intOf]; omega)
      · obtain rfl : t = J := by omega
        have q0 := Int.emod_nonneg n (b := 2 * 2 ^ (t - 1)) (by omega)
        have q1 := Int.emod_lt_of_pos n (b := 2 * 2 ^ (t - 1)) (by omega)
        have HE := Lib.hid (pow_pred (k := t) t1)
        have HS : Hid (sgnV n t = if 2 ^ (t - 1) ≤ n % (2 * 2 ^ (t - 1)) then n % (2 * 2 ^ (t - 1)) - 2 ^ (t - 1) - 2 ^ (t - 1) else n % (2 * 2 ^ (t - 1))) := Lib.hid (by unfold sgnV; rw [HE.out]; split <;> omega)
        generalize (2 : Int) ^ (t - 1) = p at *
        by_cases hge : p ≤ n % (2 * p)
        · go_wp2
          go_ret
          exact ⟨ret_int (by rw [HS.out, if_pos hge]), rfl⟩
        · go_wp2
          go_ret
          exact ⟨ret_int (by rw [HS.out, if_neg (by omega)]), rfl⟩

end Go.Proofs.Ytflpeanjfbkdfaa
