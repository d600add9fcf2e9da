/-
  Layer 7: the law's arenas out of choices.
-/
import Derived.Test.YthinhknfiaohlaaArOK
namespace Go.Proofs.Ythinhknfiaohlaa
open Go.RowKit Go.Deep

def szC (c : List Int) (i : Nat) : Nat := (if i < c.length then ((c[i]?.getD 0) % 12).toNat else 1) + (if i = 0 then 1 else 0)
def startC (c : List Int) : Nat → Nat
  | 0 => 0
  | i + 1 => startC c i + szC c i
def wvC (c : List Int) (k : Nat) : Int := if 0 < c.length then (c[k % c.length]?.getD 0) * 4311810305 + k else k
def segTo (c : List Int) (i j : Nat) : List Int := (List.range j).map (fun j => wvC c (startC c i + j))
def segC (c : List Int) (i : Nat) : List Int := segTo c i (szC c i)
def arTo (c : List Int) (t : Nat) : List (List Int) := (List.range t).map (segC c)
def arL (c : List Int) (n : Nat) : List (List Int) := arTo c (1 + n % 5)
theorem szC_bd (c : List Int) (i : Nat) : szC c i ≤ 13 := by
  unfold szC
  split <;> split <;> omega
theorem startC_bd (c : List Int) (i : Nat) : startC c i ≤ 13 * i := by
  induction i with
  | zero => exact Nat.le_refl _
  | succ i ih =>
    have := szC_bd c i
    unfold startC
    omega
theorem segTo_succ (c : List Int) (i j : Nat) : segTo c i (j + 1) = segTo c i j ++ [wvC c (startC c i + j)] := by simp [segTo, List.range_succ]
theorem segTo_length (c : List Int) (i j : Nat) : (segTo c i j).length = j := by simp [segTo]
theorem arTo_succ (c : List Int) (t : Nat) : arTo c (t + 1) = arTo c t ++ [segC c t] := by simp [arTo, List.range_succ]
theorem arTo_length (c : List Int) (t : Nat) : (arTo c t).length = t := by simp [arTo]
theorem wvC_bd {c : List Int} (hc : AllB c) (k : Nat) : 0 ≤ wvC c k ∧ wvC c k ≤ 1099511627775 + k := by
  unfold wvC
  have := hc.at_ (k % c.length)
  split <;> omega
theorem arTo_sum (c : List Int) (t : Nat) : (sizesL (arTo c t)).sum = startC c t := by
  induction t with
  | zero => rfl
  | succ t ih =>
    rw [arTo_succ]
    unfold sizesL at *
    rw [List.map_append, List.sum_append, ih]
    have : (segC c t).length = szC c t := segTo_length _ _ _
    simp [this, startC]
theorem arL_sm {c : List Int} (hc : AllB c) (n : Nat) : Sm (arL c n) := by
  have h5 : 1 + n % 5 ≤ 5 := by omega
  refine ⟨by unfold arL; rw [arTo_length]; omega, by unfold arL; rw [arTo_sum]; have := startC_bd c (1 + n % 5); omega, fun s hs x hx => ?_⟩
  obtain ⟨i, hi, rfl⟩ := List.mem_map.1 hs
  obtain ⟨j, hj, rfl⟩ := List.mem_map.1 hx
  have h1 := wvC_bd hc (startC c i + j)
  have h2 := startC_bd c i
  have h3 := szC_bd c i
  have h4 := List.mem_range.1 hi
  have h6 := List.mem_range.1 hj
  omega

end Go.Proofs.Ythinhknfiaohlaa
