/-
  The walk of layer 1's law WordSigns: it returns true, and writes nothing that was there.
-/
import Derived.Test.YtflpeanjfbkdfaaWordKnown
import Derived.OpenShut
import Derived.Deep.RegionWith
import Derived.Deep.RegionHeld3
namespace Go.Proofs.Ytflpeanjfbkdfaa
open Go.RowKit

/-- the facts on one signed number, each in the form that the walk asks for it -/
theorem sgn_facts (n : Int) {k : Nat} (h1 : 1 ≤ k) (h2 : k ≤ 62) :
    -2 ^ (k - 1) ≤ sgnV n k ∧ sgnV n k < 2 ^ (k - 1) ∧ (sgnV n k % 18446744073709551616) % 2 ^ k = n % 2 ^ k ∧ sgnV (sgnV n k % 18446744073709551616) k = sgnV n k := by
  obtain ⟨a, b⟩ := sgn_bd n h1
  have e : (sgnV n k % 18446744073709551616) % 2 ^ k = sgnV n k % 2 ^ k := by
    refine Int.emod_emod_of_dvd _ ⟨2 ^ (64 - k), ?_⟩
    rw [← Int.pow_add, show k + (64 - k) = 64 by omega]; rfl
  refine ⟨a, b, e.trans (sgn_mod n k), ?_⟩
  exact sgn_of_mod (e.trans (sgn_mod n k))

set_option maxHeartbeats 400000 in
theorem signs_walk (n k : Int) (w : World) (n0 : 0 ≤ n) (k0 : 0 ≤ k) (k1 : k ≤ 255) :
    Calls Try.prog 7 #[.int .u64 n, .int .u8 k] w fun e w' => e = .returned (.bool true) ∧ Below w.heap.size w w' := by
  obtain ⟨j, hj⟩ := Int.eq_ofNat_of_zero_le (show 0 ≤ k % 62 by omega)
  have j8 : j ≤ 61 := by omega
  have hcj : clipK (1 + (j : Int)) = j + 1 := by unfold clipK; omega
  have HC := Lib.hid hcj
  obtain ⟨f1, f2, f3, f4⟩ := sgn_facts n (k := j + 1) (by omega) (by omega)
  have F3 := Lib.hid f3
  have F4 := Lib.hid f4
  rw [Nat.add_sub_cancel] at f1 f2
  clear f3 f4 hcj
  have p0 := pow_pos j
  have p1 := pow_le61 (k := j) (by omega)
  have p2 := pow_succ' j
  have P2 := Lib.hid p2
  have p3 : (2 : Int) ^ (j + 1) ≤ 4611686018427387904 := by omega
  have p4 : (0 : Int) < 2 ^ (j + 1) := by omega
  clear p2
  go_enter Try.func7, Try.ntmps7
  go_wp2_with fail
  refine (signed_any _ _ _).mono ?_
  rintro e w' ⟨rfl, rfl⟩
  rw [HC.out]
  generalize sgnV n (j + 1) = s at *
  go_wp2
  rw [show wrap64 ((2 : Int) ^ (1 + j - 1)) = 2 ^ j by rw [Nat.add_sub_cancel_left]; unfold wrap64; omega]
  have g1 : IntKind.i64.wrap (-(2 : Int) ^ j) = -2 ^ j := by rw [IntKind.wrap_i64]; omega
  have g2 : decide (-(2 : Int) ^ j ≤ s) = true := by simpa using f1
  have g3 : decide (s < (2 : Int) ^ j) = true := by simpa using f2
  have e2 : 1 + j = j + 1 := by omega
  have F3' := F3.out
  have F4' := F4.out
  rw [← IntKind.wrap_u64, ← e2] at F3'
  rw [← IntKind.wrap_u64] at F4'
  have HF4 := Lib.hid F4'
  rw [← e2] at p3 p4
  clear e2 F4' F3 F4
  have g4 : IntKind.u64.wrap ((2 : Int) ^ (1 + j)) = 2 ^ (1 + j) := by rw [IntKind.wrap_u64]; omega
  have g5 : ¬ ((2 : Int) ^ (1 + j) = 0) := by omega
  have g6 : IntKind.u64.wrap (1 + (j : Int)) = 1 + (j : Int) := by rw [IntKind.wrap_u64]; omega
  have g7 : (1 + (j : Int)).toNat = 1 + j := by omega
  have g8 : (0 : Int) ≤ 1 + (j : Int) := by omega
  have g9 : (IntKind.u64.wrap s).tmod (2 ^ (1 + j)) = n % 2 ^ (1 + j) := by
    rw [Int.tmod_eq_emod_of_nonneg (by rw [IntKind.wrap_u64]; omega)]; exact F3'
  have g10 : n.tmod (2 ^ (1 + j)) = n % 2 ^ (1 + j) := Int.tmod_eq_emod_of_nonneg n0
  clear F3'
  go_region_held3 (fun _ => True) (exact trivial) (first | (go_at_call 11; refine (known_any _).mono ?_; rintro e w1 ⟨rfl, hB⟩) | (go_at_call 19; refine (signed_any _ _ _).mono ?_; rintro e w' ⟨rfl, rfl⟩))
  rw [HC.out, HF4.out]
  go_wp2
  go_ret
  exact ⟨by simp, ((Below.refl _ _).drew.trans hB)⟩

end Go.Proofs.Ytflpeanjfbkdfaa
