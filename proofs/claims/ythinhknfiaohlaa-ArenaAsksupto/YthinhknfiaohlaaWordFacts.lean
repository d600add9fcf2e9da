/-
  What is put reads as the number's rest (plain facts), and how rows of bytes last while calls only make memory.
-/
import Derived.Test.YthinhknfiaohlaaWordBytes
import Derived.OpenShut
namespace Go.Proofs.Ythinhknfiaohlaa
open Go.RowKit

theorem byteAt_bd (n : Int) (i : Nat) : 0 ≤ byteAt n i ∧ byteAt n i ≤ 255 := by unfold byteAt; omega
theorem putL_AllB (n : Int) (k : Nat) : AllB (putL n k) := by
  intro x hx
  obtain ⟨i, _, rfl⟩ := List.mem_map.1 hx
  exact byteAt_bd n i
theorem getV_append (l m : List Int) : getV (l ++ m) = getV l + 256 ^ l.length * getV m := by
  induction l with
  | nil => simp [getV]
  | cons x l ih =>
    have e : (256 : Int) * (256 ^ l.length * getV m) = 256 ^ l.length * (256 * getV m) := by rw [← Int.mul_assoc, Int.mul_comm 256, Int.mul_assoc]
    rw [List.cons_append, getV_cons, getV_cons, ih, List.length_cons, Int.pow_succ, Int.mul_assoc]
    omega
theorem pow256 (k : Nat) : (256 : Int) ^ k = 2 ^ (8 * k) := by
  rw [Int.pow_mul]; rfl
theorem emod_split {n : Int} (hn : 0 ≤ n) (a : Nat) : n % ((a : Int) * 256) = n % a + a * (n / a % 256) := by
  obtain ⟨N, rfl⟩ := Int.eq_ofNat_of_zero_le hn
  have h := congrArg (Int.ofNat) (@Nat.mod_mul a 256 N)
  simp only [Int.ofNat_eq_natCast, Int.natCast_emod, Int.natCast_mul, Int.natCast_add, Int.natCast_ediv] at h
  exact h
/-- there and back: what is put reads as the number's rest by 2^(8k) -/
theorem getV_putL {n : Int} (hn : 0 ≤ n) (k : Nat) : getV (putL n k) = n % 2 ^ (8 * k) := by
  induction k with
  | zero => simp [putL, getV, Int.emod_one]
  | succ k ih =>
    rw [putL_succ, getV_append, ih, putL_length, pow256]
    have e : getV [byteAt n k] = n / 2 ^ (8 * k) % 256 := by simp [getV, byteAt]
    have e2 : (2 : Int) ^ (8 * (k + 1)) = 2 ^ (8 * k) * 256 := by rw [show 8 * (k + 1) = 8 * k + 8 by omega, Int.pow_add]; rfl
    have e3 := emod_split hn (2 ^ (8 * k))
    rw [Int.natCast_pow] at e3
    rw [e, e2]
    exact e3.symm

theorem bseq {a b c : World} (h : Below a.heap.size a b) (k : Below b.heap.size b c) : Below a.heap.size a c := h.trans (k.mono h.size)
theorem Bytes.on {a b : World} {v : Value} {l : List Int} (h : Bytes a a.heap.size v l) (k : Below a.heap.size a b) : Bytes b b.heap.size v l := (h.below k (Nat.le_refl _)).more k.size
theorem Bytes.form {a : World} {B m : Nat} {v : Value} {l : List Int} (h : Bytes a B v l) (hm : l.length = m) : ∃ A c, v = .slice A m c := by
  obtain ⟨A, c, e, _⟩ := h
  exact ⟨A, c, by rw [e, hm]⟩

end Go.Proofs.Ythinhknfiaohlaa
