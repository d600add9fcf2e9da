/-
  The walks of layer 1's laws on numbers: WordCeils, WordBounds, WordSums, WordAdds: each returns true, and writes nothing that was there.
-/
import Derived.Test.YtflpeanjfbkdfaaWordKnown
import Derived.OpenShut
namespace Go.Proofs.Ytflpeanjfbkdfaa
open Go.RowKit

theorem ceil_facts {n m : Int} (h0 : 0 ≤ n) (h1 : n ≤ 9007199254740992) (h2 : 1 ≤ m) (h3 : m ≤ 9007199254740992) :
    0 ≤ ceilV n m ∧ ceilV n m ≤ n ∧ n ≤ ceilV n m * m ∧ ceilV n m * m < n + m ∧ (ceilV n m - 1) * m < n ∧ -m ≤ (ceilV n m - 1) * m := by
  obtain ⟨q1, q2, q3, q4, q5, q6, q7⟩ := div_bds h0 h2
  unfold ceilV
  rw [if_pos ⟨h0, h1, h2, h3⟩]
  split
  · rename_i hr
    have e1 : (n / m + 1) * m = n / m * m + m := by rw [Int.add_mul, Int.one_mul]
    have e2 : (n / m + 1 - 1) * m = n / m * m := by rw [Int.add_sub_cancel]
    have hlt : n / m + 1 ≤ n := by
      by_cases hn : n / m = n
      · rw [hn] at q4 q7
        have : n * 1 ≤ n * m := Int.mul_le_mul_of_nonneg_left h2 h0
        omega
      · omega
    rw [e1, e2]
    omega
  · have e2 : (n / m - 1) * m = n / m * m - m := by rw [Int.sub_mul, Int.one_mul]
    rw [e2]
    omega

set_option maxHeartbeats 400000 in
theorem ceils_walk (n d : Int) (w : World) (n0 : 0 ≤ n) (n1 : n ≤ 4294967295) (d0 : 0 ≤ d) (d1 : d ≤ 65535) :
    Calls Try.prog 8 #[.int .u32 n, .int .u16 d] w fun e w' => e = .returned (.bool true) ∧ Below w.heap.size w w' := by
  obtain ⟨f1, f2, f3, f4, f5, f6⟩ := ceil_facts (n := n) (m := d + 1) (by omega) (by omega) (by omega) (by omega)
  have hz : n = 0 → ceilV n (d + 1) = 0 := fun h => by omega
  by_cases h0 : n = 0
  · have hk := hz h0
    subst h0
    go_enter Try.func8, Try.ntmps8
    go_wp2_with fail
    refine (ceil_any _ _ _).mono ?_
    rintro e w' ⟨rfl, rfl⟩
    rw [hk]
    clear f1 f2 f3 f4 f5 f6 hz hk
    go_wp2_with fail
    refine (known_any _).mono ?_
    rintro e w1 ⟨rfl, hB⟩
    go_wp2
    go_ret
    exact ⟨rfl, hB⟩
  · have hb : (n == 0) = false := by simpa using h0
    clear hz h0
    generalize hK : ceilV n (d + 1) = k at *
    have HK := Lib.hid hK
    clear hK
    go_enter Try.func8, Try.ntmps8
    go_wp2_with fail
    refine (ceil_any _ _ _).mono ?_
    rintro e w' ⟨rfl, rfl⟩
    rw [HK.out]
    go_wp2_with fail
    refine (known_any _).mono ?_
    rintro e w1 ⟨rfl, hB⟩
    go_wp2
    go_ret
    exact ⟨rfl, hB⟩

set_option maxHeartbeats 400000 in
theorem bounds_walk (a b m : Int) (w : World) (a0 : 0 ≤ a) (a1 : a ≤ 4294967295) (b0 : 0 ≤ b) (b1 : b ≤ 4294967295) (m0 : 0 ≤ m) (m1 : m ≤ 4294967295) :
    Calls Try.prog 6 #[.int .u32 a, .int .u32 b, .int .u32 m] w fun e w' => e = .returned (.bool true) ∧ Below w.heap.size w w' := by
  go_enter Try.func6, Try.ntmps6
  go_wp2_with fail
  have y0 : 0 ≤ b % 65536 := by omega
  have y1 : b % 65536 ≤ 65535 := by omega
  generalize b % 65536 = y at *
  have p0 := mul_nonneg a0 y0
  have p1 : a * y ≤ 4294967295 * 65535 := Int.le_trans (Int.mul_le_mul_of_nonneg_right a1 y0) (Int.mul_le_mul_of_nonneg_left y1 (by omega))
  refine (add_any _ _ _ _ (by omega) (by omega) (by omega) (by omega) (by omega) (by omega)).mono ?_
  rintro e w' ⟨rfl, rfl⟩
  by_cases hs : a + y ≤ m
  all_goals by_cases hp : a * y ≤ m
  · rw [addV_of ⟨a0, y0, hs⟩, addB_of ⟨a0, y0, hs⟩]
    go_wp2_with fail
    refine (mul_any _ _ _ _ (by omega) (by omega) (by omega) (by omega) (by omega) (by omega)).mono ?_
    rintro e w' ⟨rfl, rfl⟩
    rw [mulV_of ⟨a0, y0, hp⟩, mulB_of ⟨a0, y0, hp⟩]
    go_wp2_with fail
    refine (known_any _).mono ?_
    rintro e w1 ⟨rfl, hB⟩
    go_wp2
    go_ret
    exact ⟨rfl, hB⟩
  · have hd2 : decide (a * y ≤ m) = false := by simpa using hp
    rw [addV_of ⟨a0, y0, hs⟩, addB_of ⟨a0, y0, hs⟩]
    go_wp2_with fail
    refine (mul_any _ _ _ _ (by omega) (by omega) (by omega) (by omega) (by omega) (by omega)).mono ?_
    rintro e w' ⟨rfl, rfl⟩
    rw [mulV_not (fun h => by omega), mulB_not (fun h => by omega)]
    go_wp2_with fail
    refine (known_any _).mono ?_
    rintro e w1 ⟨rfl, hB⟩
    go_wp2
    go_ret
    exact ⟨rfl, hB⟩
  · have hd1 : decide (a + y ≤ m) = false := by simpa using hs
    rw [addV_not (fun h => by omega), addB_not (fun h => by omega)]
    go_wp2_with fail
    refine (mul_any _ _ _ _ (by omega) (by omega) (by omega) (by omega) (by omega) (by omega)).mono ?_
    rintro e w' ⟨rfl, rfl⟩
    rw [mulV_of ⟨a0, y0, by omega⟩, mulB_of ⟨a0, y0, by omega⟩]
    go_wp2_with fail
    refine (known_any _).mono ?_
    rintro e w1 ⟨rfl, hB⟩
    go_wp2
    go_ret
    exact ⟨rfl, hB⟩
  · have hd1 : decide (a + y ≤ m) = false := by simpa using hs
    have hd2 : decide (a * y ≤ m) = false := by simpa using hp
    rw [addV_not (fun h => by omega), addB_not (fun h => by omega)]
    go_wp2_with fail
    refine (mul_any _ _ _ _ (by omega) (by omega) (by omega) (by omega) (by omega) (by omega)).mono ?_
    rintro e w' ⟨rfl, rfl⟩
    rw [mulV_not (fun h => by omega), mulB_not (fun h => by omega)]
    go_wp2_with fail
    refine (known_any _).mono ?_
    rintro e w1 ⟨rfl, hB⟩
    go_wp2
    go_ret
    exact ⟨rfl, hB⟩

end Go.Proofs.Ytflpeanjfbkdfaa
