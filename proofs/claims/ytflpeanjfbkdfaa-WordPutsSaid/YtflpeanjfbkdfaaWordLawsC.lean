/-
  The walk of layer 1's law WordBack: it returns true, and writes nothing that was there.
-/
import Derived.Test.YtflpeanjfbkdfaaWordKnown
import Derived.Test.YtflpeanjfbkdfaaWordGet
import Derived.OpenShut
namespace Go.Proofs.Ytflpeanjfbkdfaa
open Go.RowKit

theorem byteAt_bd (n : Int) (i : Nat) : 0 ≤ byteAt n i ∧ byteAt n i ≤ 255 := by unfold byteAt; omega
theorem putL_AllB (n : Int) (k : Nat) : AllB (putL n k) := by
  intro x hx
  obtain ⟨i, _, rfl⟩ := List.mem_map.1 hx
  exact byteAt_bd n i
theorem getV_append (l m : List Int) : getV (l ++ m) = getV l + 256 ^ l.length * getV m := by
  induction l with
  | nil => simp [getV]
  | cons x l ih =>
    have e : (256 : Int) * (256 ^ l.length * getV m) = 256 ^ l.length * (256 * getV m) := by rw [← Int.mul_assoc, Int.mul_comm 256, Int.mul_assoc]
    rw [List.cons_append, getV_cons, getV_cons, ih, List.length_cons, Int.pow_succ, Int.mul_assoc]
    omega
theorem pow256 (k : Nat) : (256 : Int) ^ k = 2 ^ (8 * k) := by
  rw [Int.pow_mul]; rfl
theorem emod_split {n : Int} (hn : 0 ≤ n) (a : Nat) : n % ((a : Int) * 256) = n % a + a * (n / a % 256) := by
  obtain ⟨N, rfl⟩ := Int.eq_ofNat_of_zero_le hn
  have h := congrArg (Int.ofNat) (@Nat.mod_mul a 256 N)
  simp only [Int.ofNat_eq_natCast, Int.natCast_emod, Int.natCast_mul, Int.natCast_add, Int.natCast_ediv] at h
  exact h
/-- there and back: what is put reads as the number's rest by 2^(8k) -/
theorem getV_putL {n : Int} (hn : 0 ≤ n) (k : Nat) : getV (putL n k) = n % 2 ^ (8 * k) := by
  induction k with
  | zero => simp [putL, getV, Int.emod_one]
  | succ k ih =>
    rw [putL_succ, getV_append, ih, putL_length, pow256]
    have e : getV [byteAt n k] = n / 2 ^ (8 * k) % 256 := by simp [getV, byteAt]
    have e2 : (2 : Int) ^ (8 * (k + 1)) = 2 ^ (8 * k) * 256 := by rw [show 8 * (k + 1) = 8 * k + 8 by omega, Int.pow_add]; rfl
    have e3 := emod_split hn (2 ^ (8 * k))
    rw [Int.natCast_pow] at e3
    rw [e, e2]
    exact e3.symm

theorem bseq {a b c : World} (h : Below a.heap.size a b) (k : Below b.heap.size b c) : Below a.heap.size a c := h.trans (k.mono h.size)
theorem Bytes.on {a b : World} {v : Value} {l : List Int} (h : Bytes a a.heap.size v l) (k : Below a.heap.size a b) : Bytes b b.heap.size v l := (h.below k (Nat.le_refl _)).more k.size
theorem Bytes.form {a : World} {B m : Nat} {v : Value} {l : List Int} (h : Bytes a B v l) (hm : l.length = m) : ∃ A c, v = .slice A m c := by
  obtain ⟨A, c, e, _⟩ := h
  exact ⟨A, c, by rw [e, hm]⟩

set_option maxHeartbeats 400000 in
theorem back_walk (n k : Int) (w : World) (n0 : 0 ≤ n) (n1 : n ≤ 18446744073709551615) (k0 : 0 ≤ k) (k1 : k ≤ 255) :
    Calls Try.prog 5 #[.int .u64 n, .int .u8 k] w fun e w' => e = .returned (.bool true) ∧ Below w.heap.size w w' := by
  obtain ⟨j, hj⟩ := Int.eq_ofNat_of_zero_le (show 0 ≤ k % 9 by omega)
  have j8 : j ≤ 8 := by omega
  have hcj : clip8 (j : Int) = j := by unfold clip8; omega
  have HC := Lib.hid hcj
  have HG := Lib.hid (getV_putL n0 j)
  have HN : Hid (n % 2 ^ (8 * 8) = n) := Lib.hid (Int.emod_eq_of_lt n0 (by rw [show (2 : Int) ^ (8 * 8) = 18446744073709551616 from rfl]; omega))
  have HG8 : Hid (getV (putL n 8) = n) := Lib.hid ((getV_putL n0 8).trans HN.out)
  have HT : Hid ((putL n j).take 8 = putL n j) := Lib.hid (List.take_of_length_le (by rw [putL_length]; exact j8))
  have HT8 : Hid ((putL n 8).take 8 = putL n 8) := Lib.hid (List.take_of_length_le (by rw [putL_length]; omega))
  clear hcj
  by_cases hlt : j < 8
  · have p0 := pow_pos (8 * j)
    have p1 := pow_le62 (k := 8 * j) (by omega)
    have q0 := Int.emod_nonneg n (b := 2 ^ (8 * j)) (by omega)
    go_enter Try.func5, Try.ntmps5
    go_wp2_with fail
    refine (put_any _ _ _).mono ?_
    rintro e wA ⟨v, rfl, hby, hB1⟩
    rw [HC.out] at hby
    obtain ⟨A, c, hv⟩ := hby.form (putL_length n j)
    rw [hv] at hby ⊢
    clear hv
    have HY1 := Lib.hid hby
    clear hby
    go_wp2_with fail
    refine (known_any _).mono ?_
    rintro e wB ⟨rfl, hB2⟩
    go_wp2_with fail
    refine (get_any _ (putL n j) _ (HY1.out.on hB2) (putL_AllB n j)).mono ?_
    rintro e wC ⟨rfl, hB3⟩
    rw [HT.out, HG.out]
    go_wp2_with fail
    refine (put_any _ _ _).mono ?_
    rintro e wD ⟨v2, rfl, hby2, hB4⟩
    rw [show clip8 8 = 8 from rfl] at hby2
    obtain ⟨A2, c2, hv2⟩ := hby2.form (putL_length n 8)
    rw [hv2] at hby2 ⊢
    clear hv2
    have HY2 := Lib.hid hby2
    clear hby2
    go_wp2_with fail
    refine (get_any _ (putL n 8) _ HY2.out (putL_AllB n 8)).mono ?_
    rintro e wE ⟨rfl, hB5⟩
    rw [HT8.out, HG8.out]
    go_wp2
    go_ret
    exact ⟨rfl, bseq (bseq (bseq (bseq hB1 hB2) hB3) hB4) hB5⟩
  · obtain rfl : j = 8 := by omega
    rw [HN.out] at HG
    go_enter Try.func5, Try.ntmps5
    go_wp2_with fail
    refine (put_any _ _ _).mono ?_
    rintro e wA ⟨v, rfl, hby, hB1⟩
    rw [show clip8 8 = 8 from rfl] at hby
    obtain ⟨A, c, hv⟩ := hby.form (putL_length n 8)
    rw [hv] at hby ⊢
    clear hv
    have HY1 := Lib.hid hby
    clear hby
    go_wp2_with fail
    refine (known_any _).mono ?_
    rintro e wB ⟨rfl, hB2⟩
    go_wp2_with fail
    refine (get_any _ (putL n 8) _ (HY1.out.on hB2) (putL_AllB n 8)).mono ?_
    rintro e wC ⟨rfl, hB3⟩
    rw [HT.out, HG.out]
    go_wp2_with fail
    refine (put_any _ _ _).mono ?_
    rintro e wD ⟨v2, rfl, hby2, hB4⟩
    rw [show clip8 8 = 8 from rfl] at hby2
    obtain ⟨A2, c2, hv2⟩ := hby2.form (putL_length n 8)
    rw [hv2] at hby2 ⊢
    clear hv2
    have HY2 := Lib.hid hby2
    clear hby2
    go_wp2_with fail
    refine (get_any _ (putL n 8) _ HY2.out (putL_AllB n 8)).mono ?_
    rintro e wE ⟨rfl, hB5⟩
    rw [HT8.out, HG8.out]
    go_wp2
    go_ret
    exact ⟨rfl, bseq (bseq (bseq (bseq hB1 hB2) hB3) hB4) hB5⟩

end Go.Proofs.Ytflpeanjfbkdfaa
