/-
  Plain facts on numbers for layer 1 (word): what Add, Mul, Ceil and Signed come to, as plain functions, and the arithmetic that the walks need. No program is named here.
-/
import Derived.WalkKit
namespace Go.Proofs.Ythinhknfiaohlaa
open Go.RowKit

/-! ### Add, Mul -/
def addB (a b m : Int) : Bool := decide (0 ≤ a ∧ 0 ≤ b ∧ a + b ≤ m)
def addV (a b m : Int) : Int := if addB a b m then a + b else 0
theorem add_yes {a b m : Int} (h : 0 ≤ a ∧ 0 ≤ b ∧ a + b ≤ m) : Ending.returned (.tuple #[.int .i64 (a + b), .bool true]) = .returned (.tuple #[.int .i64 (addV a b m), .bool (addB a b m)]) := by
  simp [addV, addB, h]
theorem add_no {a b m : Int} (h : ¬ (0 ≤ a ∧ 0 ≤ b ∧ a + b ≤ m)) : Ending.returned (.tuple #[.int .i64 0, .bool false]) = .returned (.tuple #[.int .i64 (addV a b m), .bool (addB a b m)]) := by
  simp [addV, addB, h]
theorem addB_iff {a b m : Int} : addB a b m = true ↔ 0 ≤ a ∧ 0 ≤ b ∧ a + b ≤ m := by simp [addB]
theorem addB_of {a b m : Int} (h : 0 ≤ a ∧ 0 ≤ b ∧ a + b ≤ m) : addB a b m = true := by simp [addB, h]
theorem addB_not {a b m : Int} (h : ¬ (0 ≤ a ∧ 0 ≤ b ∧ a + b ≤ m)) : addB a b m = false := by simp [addB, h]
theorem addV_of {a b m : Int} (h : 0 ≤ a ∧ 0 ≤ b ∧ a + b ≤ m) : addV a b m = a + b := by simp [addV, addB_of h]
theorem addV_not {a b m : Int} (h : ¬ (0 ≤ a ∧ 0 ≤ b ∧ a + b ≤ m)) : addV a b m = 0 := by simp [addV, addB_not h]
theorem addB_comm (a b m : Int) : addB a b m = addB b a m := by
  unfold addB; congr 1; apply propext; omega
theorem addV_comm (a b m : Int) : addV a b m = addV b a m := by
  unfold addV; rw [addB_comm a b m, Int.add_comm]

def mulB (a b m : Int) : Bool := decide (0 ≤ a ∧ 0 ≤ b ∧ a * b ≤ m)
def mulV (a b m : Int) : Int := if mulB a b m then a * b else 0
theorem mul_yes {a b m : Int} (h : 0 ≤ a ∧ 0 ≤ b ∧ a * b ≤ m) : Ending.returned (.tuple #[.int .i64 (a * b), .bool true]) = .returned (.tuple #[.int .i64 (mulV a b m), .bool (mulB a b m)]) := by
  simp [mulV, mulB, h]
theorem mul_zero_r {a m : Int} (h : 0 ≤ a ∧ 0 ≤ m) : Ending.returned (.tuple #[.int .i64 0, .bool true]) = .returned (.tuple #[.int .i64 (mulV a 0 m), .bool (mulB a 0 m)]) := by
  simp [mulV, mulB, h]
theorem mul_zero_l {a m : Int} (h : 0 ≤ a ∧ 0 ≤ m) : Ending.returned (.tuple #[.int .i64 0, .bool true]) = .returned (.tuple #[.int .i64 (mulV 0 a m), .bool (mulB 0 a m)]) := by
  simp [mulV, mulB, h]
theorem mul_no {a b m : Int} (h : ¬ (0 ≤ a ∧ 0 ≤ b ∧ a * b ≤ m)) : Ending.returned (.tuple #[.int .i64 0, .bool false]) = .returned (.tuple #[.int .i64 (mulV a b m), .bool (mulB a b m)]) := by
  simp [mulV, mulB, h]
theorem mulB_of {a b m : Int} (h : 0 ≤ a ∧ 0 ≤ b ∧ a * b ≤ m) : mulB a b m = true := by simp [mulB, h]
theorem mulB_not {a b m : Int} (h : ¬ (0 ≤ a ∧ 0 ≤ b ∧ a * b ≤ m)) : mulB a b m = false := by simp [mulB, h]
theorem mulV_of {a b m : Int} (h : 0 ≤ a ∧ 0 ≤ b ∧ a * b ≤ m) : mulV a b m = a * b := by simp [mulV, mulB_of h]
theorem mulV_not {a b m : Int} (h : ¬ (0 ≤ a ∧ 0 ≤ b ∧ a * b ≤ m)) : mulV a b m = 0 := by simp [mulV, mulB_not h]
theorem mulB_comm (a b m : Int) : mulB a b m = mulB b a m := by
  unfold mulB; rw [Int.mul_comm]; congr 1; apply propext; omega
theorem mulV_comm (a b m : Int) : mulV a b m = mulV b a m := by
  unfold mulV; rw [mulB_comm a b m, Int.mul_comm]
theorem le_div {a b m : Int} (hb : 0 < b) : a ≤ m / b ↔ a * b ≤ m := Int.le_ediv_iff_mul_le hb
theorem lt_div {a b m : Int} (hb : 0 < b) : m / b < a ↔ m < a * b := Int.ediv_lt_iff_lt_mul hb
theorem mul_nonneg {a b : Int} (ha : 0 ≤ a) (hb : 0 ≤ b) : 0 ≤ a * b := Int.mul_nonneg ha hb

/-! ### Ceil -/
def ceilV (n d : Int) : Int := if 0 ≤ n ∧ n ≤ 9007199254740992 ∧ 1 ≤ d ∧ d ≤ 9007199254740992 then (if 0 < n % d then n / d + 1 else n / d) else 0
theorem ret_int {k : IntKind} {a b : Int} (h : a = b) : Ending.returned (.int k a) = .returned (.int k b) := by rw [h]
theorem ceil_up {n d : Int} (h : 0 ≤ n ∧ n ≤ 9007199254740992 ∧ 1 ≤ d ∧ d ≤ 9007199254740992) (h2 : 0 < n % d) : n / d + 1 = ceilV n d := by simp [ceilV, h, h2]
theorem ceil_even {n d : Int} (h : 0 ≤ n ∧ n ≤ 9007199254740992 ∧ 1 ≤ d ∧ d ≤ 9007199254740992) (h2 : ¬ 0 < n % d) : n / d = ceilV n d := by simp [ceilV, h, h2]
theorem ceil_no {n d : Int} (h : ¬ (0 ≤ n ∧ n ≤ 9007199254740992 ∧ 1 ≤ d ∧ d ≤ 9007199254740992)) : 0 = ceilV n d := by simp [ceilV, h]
theorem div_bds {n d : Int} (hn : 0 ≤ n) (hd : 1 ≤ d) : 0 ≤ n / d ∧ n / d ≤ n ∧ 0 ≤ n / d * d ∧ n / d * d ≤ n ∧ 0 ≤ n % d ∧ n % d < d ∧ n / d * d + n % d = n := by
  have h1 := Int.ediv_nonneg hn (by omega : (0 : Int) ≤ d)
  have h2 := Int.ediv_le_self d hn
  have h3 := Int.emod_nonneg n (by omega : d ≠ 0)
  have h4 := Int.emod_lt_of_pos n (by omega : 0 < d)
  have h5 := Int.mul_ediv_add_emod n d
  rw [Int.mul_comm] at h5
  have h6 := Int.mul_nonneg h1 (by omega : (0 : Int) ≤ d)
  exact ⟨h1, h2, h6, by omega, h3, h4, h5⟩

/-! ### Signed -/
def clipK (k : Int) : Nat := (min (max k 1) 63).toNat
theorem clipK_bd (k : Int) : 1 ≤ clipK k ∧ clipK k ≤ 63 := by unfold clipK; omega
def sgnV (n : Int) (k : Nat) : Int := if 2 ^ (k - 1) ≤ n % 2 ^ k then n % 2 ^ k - 2 ^ k else n % 2 ^ k
theorem pow_pos (k : Nat) : (0 : Int) < 2 ^ k := Int.pow_pos (by omega)
theorem pow_mono {a b : Nat} (h : a ≤ b) : (2 : Int) ^ a ≤ 2 ^ b := by
  have := Nat.pow_le_pow_right (n := 2) (by omega) h
  exact_mod_cast this
theorem pow_succ' (k : Nat) : (2 : Int) ^ (k + 1) = 2 * 2 ^ k := by rw [Int.pow_succ, Int.mul_comm]
theorem pow_pred {k : Nat} (h : 1 ≤ k) : (2 : Int) ^ k = 2 * 2 ^ (k - 1) := by
  obtain ⟨j, rfl⟩ : ∃ j, k = j + 1 := ⟨k - 1, by omega⟩
  simp [pow_succ']
theorem pow_le61 {k : Nat} (h : k ≤ 61) : (2 : Int) ^ k ≤ 2305843009213693952 := by
  have := pow_mono h
  simpa using this
theorem pow_le62 {k : Nat} (h : k ≤ 62) : (2 : Int) ^ k ≤ 4611686018427387904 := by
  have := pow_mono h
  simpa using this
theorem pow_le63 {k : Nat} (h : k ≤ 63) : (2 : Int) ^ k ≤ 9223372036854775808 := by
  have := pow_mono h
  simpa using this
theorem sgn_bd (n : Int) {k : Nat} (h : 1 ≤ k) : -2 ^ (k - 1) ≤ sgnV n k ∧ sgnV n k < 2 ^ (k - 1) := by
  have h1 := pow_pred h
  have h2 := Int.emod_nonneg n (b := 2 ^ k) (by have := pow_pos k; omega)
  have h3 := Int.emod_lt_of_pos n (pow_pos k)
  unfold sgnV
  split <;> omega
theorem sgn_mod (n : Int) (k : Nat) : sgnV n k % 2 ^ k = n % 2 ^ k := by
  unfold sgnV
  split
  · rw [Int.sub_emod_right]; exact Int.emod_emod_of_dvd n (Int.dvd_refl _)
  · exact Int.emod_emod_of_dvd n (Int.dvd_refl _)
theorem sgn_of_mod {n m : Int} {k : Nat} (h : n % 2 ^ k = m % 2 ^ k) : sgnV n k = sgnV m k := by
  unfold sgnV; rw [h]
/-- what 'int64(n << (64 - k)) >> (64 - k)' comes to -/
theorem shifted (n : Int) {k : Nat} (h1 : 1 ≤ k) (h2 : k ≤ 63) : wrap64 (IntKind.u64.wrap (n * 2 ^ (64 - k))) / 2 ^ (64 - k) = sgnV n k := by
  have e : (18446744073709551616 : Int) = 2 ^ k * 2 ^ (64 - k) := by
    rw [← Int.pow_add]; rw [show k + (64 - k) = 64 by omega]; rfl
  have e2 : (9223372036854775808 : Int) = 2 ^ (k - 1) * 2 ^ (64 - k) := by
    rw [← Int.pow_add]; rw [show k - 1 + (64 - k) = 63 by omega]; rfl
  have hs := pow_pos (64 - k)
  have hk := pow_pos k
  have u : IntKind.u64.wrap (n * 2 ^ (64 - k)) = (n % 2 ^ k) * 2 ^ (64 - k) := by
    rw [IntKind.wrap_u64, e, Int.mul_comm n, Int.mul_comm (2 ^ k), Int.mul_emod_mul_of_pos _ _ hs, Int.mul_comm]
  rw [u]
  have r0 := Int.emod_nonneg n (b := 2 ^ k) (by omega)
  have r1 := Int.emod_lt_of_pos n hk
  unfold sgnV
  generalize n % 2 ^ k = r at *
  have x0 := Int.mul_nonneg r0 (Int.le_of_lt hs)
  have x1 : r * 2 ^ (64 - k) < 18446744073709551616 := by rw [e]; exact Int.mul_lt_mul_of_pos_right r1 hs
  have key : 9223372036854775808 ≤ r * 2 ^ (64 - k) ↔ 2 ^ (k - 1) ≤ r := by
    rw [e2]; exact ⟨fun h => Int.le_of_mul_le_mul_right h hs, fun h => Int.mul_le_mul_of_nonneg_right h (Int.le_of_lt hs)⟩
  by_cases c : 2 ^ (k - 1) ≤ r
  · rw [if_pos c]
    have c' := key.2 c
    have : wrap64 (r * 2 ^ (64 - k)) = (r - 2 ^ k) * 2 ^ (64 - k) := by
      rw [Int.sub_mul, ← e]; unfold wrap64; omega
    rw [this, Int.mul_ediv_cancel _ (by omega)]
  · rw [if_neg c]
    have c' : ¬ 9223372036854775808 ≤ r * 2 ^ (64 - k) := fun h => c (key.1 h)
    have : wrap64 (r * 2 ^ (64 - k)) = r * 2 ^ (64 - k) := by unfold wrap64; omega
    rw [this, Int.mul_ediv_cancel _ (by omega)]

end Go.Proofs.Ythinhknfiaohlaa
