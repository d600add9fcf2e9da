/-
  Plain facts on bytes for layer 1 (word): what Get comes to, as a plain function on lists of bytes. No program is named here.
-/
import Derived.WalkKit
namespace Go.Proofs.Ythinhknfiaohlaa
open Go.RowKit

/-! ### Get -/
def getV (l : List Int) : Int := l.foldr (fun b acc => 256 * acc + b) 0
/-- each is a byte -/
def AllB (l : List Int) : Prop := ∀ x ∈ l, 0 ≤ x ∧ x ≤ 255
theorem AllB.at_ {l : List Int} (h : AllB l) (j : Nat) : 0 ≤ l[j]?.getD 0 ∧ l[j]?.getD 0 ≤ 255 := by
  rcases hj : l[j]? with _ | x
  · simp
  · simpa using h x (List.mem_of_getElem? hj)
theorem AllB.take {l : List Int} (h : AllB l) (k : Nat) : AllB (l.take k) := fun x hx => h x (List.mem_of_mem_take hx)
theorem AllB.drop {l : List Int} (h : AllB l) (k : Nat) : AllB (l.drop k) := fun x hx => h x (List.mem_of_mem_drop hx)
theorem AllB.append {l m : List Int} (h : AllB l) (h' : AllB m) : AllB (l ++ m) := fun x hx => (List.mem_append.1 hx).elim (h x) (h' x)
theorem getV_cons (x : Int) (l : List Int) : getV (x :: l) = 256 * getV l + x := rfl
theorem getV_nonneg {l : List Int} (h : AllB l) : 0 ≤ getV l := by
  induction l with
  | nil => simp [getV]
  | cons x l ih =>
    rw [getV_cons]
    have := ih (fun y hy => h y (List.mem_cons_of_mem _ hy))
    have := h x (List.mem_cons_self)
    omega
theorem getV_lt {l : List Int} (h : AllB l) : getV l < 256 ^ l.length := by
  induction l with
  | nil => simp [getV]
  | cons x l ih =>
    rw [getV_cons, List.length_cons, Int.pow_succ]
    have := ih (fun y hy => h y (List.mem_cons_of_mem _ hy))
    have := h x (List.mem_cons_self)
    omega
theorem pow256_mono {a b : Nat} (h : a ≤ b) : (256 : Int) ^ a ≤ 256 ^ b := by
  have h1 : ((256 ^ a : Nat) : Int) ≤ ((256 ^ b : Nat) : Int) := Int.ofNat_le.2 (Nat.pow_le_pow_right (by omega) h)
  rw [Int.natCast_pow, Int.natCast_pow] at h1
  exact h1
theorem getV_lt7 {l : List Int} (h : AllB l) (hl : l.length ≤ 7) : getV l < 72057594037927936 := by
  have h1 := getV_lt h
  have h2 := pow256_mono hl
  rw [show (256 : Int) ^ 7 = 72057594037927936 from rfl] at h2
  omega
theorem getV_lt8 {l : List Int} (h : AllB l) (hl : l.length ≤ 8) : getV l < 18446744073709551616 := by
  have h1 := getV_lt h
  have h2 := pow256_mono hl
  rw [show (256 : Int) ^ 8 = 18446744073709551616 from rfl] at h2
  omega
theorem drop_at {l : List Int} {k : Nat} (h : k < l.length) : l.drop k = l[k]?.getD 0 :: l.drop (k + 1) := by
  rw [List.drop_eq_getElem_cons h]; simp [h]
theorem getV_drop {l : List Int} {k : Nat} (h : k < l.length) : getV (l.drop k) = 256 * getV (l.drop (k + 1)) + l[k]?.getD 0 := by
  rw [drop_at h, getV_cons]

end Go.Proofs.Ythinhknfiaohlaa
