/-
  The walks of layer 1's laws WordSums and WordAdds: each returns true, and writes nothing that was there.
-/
import Derived.Test.YtflpeanjfbkdfaaWordKnown
import Derived.OpenShut
namespace Go.Proofs.Ytflpeanjfbkdfaa
open Go.RowKit

set_option maxHeartbeats 1000000 in
theorem sums_walk (a b m r : Int) (w : World) (a0 : -9223372036854775808 ≤ a) (a1 : a ≤ 9223372036854775807) (b0 : -9223372036854775808 ≤ b) (b1 : b ≤ 9223372036854775807) (m0 : -9223372036854775808 ≤ m) (m1 : m ≤ 9223372036854775807) (r0 : 0 ≤ r) (r1 : r ≤ 65535) :
    Calls Try.prog 9 #[.int .i64 a, .int .i64 b, .int .i64 m, .int .u16 r] w fun e w' => e = .returned (.bool true) ∧ Below w.heap.size w w' := by
  have HV := Lib.hid (addV_comm b a m)
  have HB := Lib.hid (addB_comm b a m)
  have HV2 := Lib.hid (mulV_comm b a m)
  have HB2 := Lib.hid (mulB_comm b a m)
  go_enter Try.func9, Try.ntmps9
  go_wp2_with fail
  refine (add_any _ _ _ _ a0 a1 b0 b1 m0 m1).mono ?_
  rintro e w' ⟨rfl, rfl⟩
  go_wp2_with fail
  refine (add_any _ _ _ _ b0 b1 a0 a1 m0 m1).mono ?_
  rintro e w' ⟨rfl, rfl⟩
  rw [HV.out, HB.out]
  go_wp2_with fail
  refine (mul_any _ _ _ _ a0 a1 b0 b1 m0 m1).mono ?_
  rintro e w' ⟨rfl, rfl⟩
  go_wp2_with fail
  refine (mul_any _ _ _ _ b0 b1 a0 a1 m0 m1).mono ?_
  rintro e w' ⟨rfl, rfl⟩
  rw [HV2.out, HB2.out]
  generalize mulV a b m = mv at *
  generalize mulB a b m = mb at *
  clear HV HB HV2 HB2
  have wb : -9223372036854775808 ≤ wrap64 (m + r) ∧ wrap64 (m + r) ≤ 9223372036854775807 := by unfold wrap64; omega
  obtain ⟨wb0, wb1⟩ := wb
  by_cases hc : 0 ≤ a ∧ 0 ≤ b ∧ a + b ≤ m
  · rw [addV_of hc, addB_of hc]
    obtain ⟨hc0, hc1, hc2⟩ := hc
    go_wp2_with fail
    all_goals
      refine (add_any _ _ _ _ a0 a1 b0 b1 (by omega) (by omega)).mono ?_
      rintro e w' ⟨rfl, rfl⟩
      rw [addV_of ⟨hc0, hc1, by omega⟩, addB_of ⟨hc0, hc1, by omega⟩]
      go_wp2_with fail
      refine (known_any _).mono ?_
      rintro e w1 ⟨rfl, hB⟩
      go_wp2
      go_ret
      exact ⟨rfl, hB⟩
  · rw [addV_not hc, addB_not hc]
    clear hc
    go_wp2_with fail
    all_goals
      refine (add_any _ _ _ _ a0 a1 b0 b1 (by omega) (by omega)).mono ?_
      rintro e w' ⟨rfl, rfl⟩
      go_wp2_with fail
      refine (known_any _).mono ?_
      rintro e w1 ⟨rfl, hB⟩
      go_wp2
      go_ret
      exact ⟨rfl, hB⟩

set_option maxHeartbeats 400000 in
theorem adds_walk (a b m : Int) (w : World) (a0 : -9223372036854775808 ≤ a) (a1 : a ≤ 9223372036854775807) (b0 : -9223372036854775808 ≤ b) (b1 : b ≤ 9223372036854775807) (m0 : -9223372036854775808 ≤ m) (m1 : m ≤ 9223372036854775807) :
    Calls Try.prog 16 #[.int .i64 a, .int .i64 b, .int .i64 m] w fun e w' => e = .returned (.bool true) ∧ w = w' := by
  go_enter Try.func16, Try.ntmps16
  go_wp2_with fail
  refine (add_any _ _ _ _ a0 a1 b0 b1 m0 m1).mono ?_
  rintro e w' ⟨rfl, rfl⟩
  go_wp2_with fail
  refine (addr_any _ _ _ _ a0 a1 b0 b1 m0 m1).mono ?_
  rintro e w' ⟨rfl, rfl⟩
  go_wp2_with fail
  refine (mul_any _ _ _ _ a0 a1 b0 b1 m0 m1).mono ?_
  rintro e w' ⟨rfl, rfl⟩
  go_wp2_with fail
  refine (mulr_any _ _ _ _ a0 a1 b0 b1 m0 m1).mono ?_
  rintro e w' ⟨rfl, rfl⟩
  generalize mulV a b m = mv at *
  generalize mulB a b m = mb at *
  generalize addV a b m = av at *
  generalize addB a b m = ab at *
  go_wp2
  go_ret
  exact ⟨rfl, rfl⟩

theorem shr_bd {x : Int} (h0 : -9223372036854775808 ≤ x) (h1 : x ≤ 9223372036854775807) (k : Nat) : -9223372036854775808 ≤ x / 2 ^ k ∧ x / 2 ^ k ≤ 9223372036854775807 := by
  have hp := pow_pos k
  constructor
  · have := Int.le_ediv_of_mul_le hp (a := -9223372036854775808) (b := x) (by have : -9223372036854775808 * 2 ^ k ≤ -9223372036854775808 * (1 : Int) := Int.mul_le_mul_of_nonpos_left (by omega) (by omega); omega)
    exact this
  · by_cases hx : 0 ≤ x
    · exact Int.le_trans (Int.ediv_le_self _ hx) h1
    · have := Int.ediv_neg_of_neg_of_pos (a := x) (b := 2 ^ k) (by omega) hp
      omega

set_option maxHeartbeats 1000000 in
theorem wordadds_walk (a b m n wd k : Int) (w : World) (a0 : -9223372036854775808 ≤ a) (a1 : a ≤ 9223372036854775807) (b0 : -9223372036854775808 ≤ b) (b1 : b ≤ 9223372036854775807) (m0 : -9223372036854775808 ≤ m) (m1 : m ≤ 9223372036854775807)
    (n0 : 0 ≤ n) (n1 : n ≤ 18446744073709551615) (k0 : 0 ≤ k) (k1 : k ≤ 255) :
    Calls Try.prog 4 #[.int .i64 a, .int .i64 b, .int .i64 m, .int .u64 n, .int .i64 wd, .int .u8 k] w fun e w' => e = .returned (.bool true) ∧ Below w.heap.size w w' := by
  go_enter Try.func4, Try.ntmps4
  go_wp2_with fail
  refine (known_any _).mono ?_
  rintro e w1 ⟨rfl, hB⟩
  go_wp2_with fail
  refine (adds_walk _ _ _ _ a0 a1 b0 b1 m0 m1).mono ?_
  rintro e w' ⟨rfl, rfl⟩
  go_wp2_with fail
  have s1 := shr_bd a0 a1 (k % 64).toNat
  have s2 := shr_bd b0 b1 (k % 64).toNat
  have s3 := shr_bd m0 m1 (k % 64 / 2).toNat
  refine (adds_walk _ _ _ _ s1.1 s1.2 s2.1 s2.2 s3.1 s3.2).mono ?_
  rintro e w' ⟨rfl, rfl⟩
  clear s1 s2 s3
  go_wp2_with fail
  refine (ceil_any _ _ _).mono ?_
  rintro e w' ⟨rfl, rfl⟩
  go_wp2_with fail
  refine (ceilr_any _ _ _).mono ?_
  rintro e w' ⟨rfl, rfl⟩
  generalize ceilV a b = c1 at *
  go_wp2_with fail
  refine (ceil_any _ _ _).mono ?_
  rintro e w' ⟨rfl, rfl⟩
  go_wp2_with fail
  refine (ceilr_any _ _ _).mono ?_
  rintro e w' ⟨rfl, rfl⟩
  generalize ceilV (a / 2 ^ (k % 64).toNat) (b / 2 ^ (k % 64).toNat) = c2 at *
  go_wp2_with fail
  refine (signed_any _ _ _).mono ?_
  rintro e w' ⟨rfl, rfl⟩
  go_wp2_with fail
  refine (signedr_any _ _ _ n0 n1).mono ?_
  rintro e w' ⟨rfl, rfl⟩
  generalize sgnV n (clipK wd) = c3 at *
  go_wp2_with fail
  refine (signed_any _ _ _).mono ?_
  rintro e w' ⟨rfl, rfl⟩
  go_wp2_with fail
  refine (signedr_any _ _ _ n0 n1).mono ?_
  rintro e w' ⟨rfl, rfl⟩
  generalize sgnV n (clipK (k % 70 - 3)) = c4 at *
  go_wp2
  go_ret
  exact ⟨rfl, hB⟩

end Go.Proofs.Ytflpeanjfbkdfaa
