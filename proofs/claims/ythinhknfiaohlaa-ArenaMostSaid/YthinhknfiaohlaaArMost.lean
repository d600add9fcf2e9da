/-
  Layer 7, plain facts for ArenaMost: sizes 1, 0, .., 0, q; rows of noughts.
-/
import Derived.Test.YthinhknfiaohlaaArLawsG
namespace Go.Proofs.Ythinhknfiaohlaa
open Go.RowKit Go.Deep

def mostV (k q i : Nat) : Nat := (if i = 0 then 1 else 0) + (if i + 1 = k then q else 0)
def mostS (k q : Nat) : List Int := (List.range k).map (fun i => ((mostV k q i : Nat) : Int))
theorem mostS_length (k q : Nat) : (mostS k q).length = k := by simp [mostS]
theorem mostS_get {k q i : Nat} (h : i < k) : (mostS k q)[i]?.getD 0 = (mostV k q i : Nat) := by
  unfold mostS
  rw [List.getElem?_map, List.getElem?_range h]
  rfl
theorem mostS_sum (k q t : Nat) (h : t ≤ k) : ((mostS k q).take t).sum = ((if t = 0 then 0 else 1 + (if t = k then q else 0) : Nat) : Int) := by
  induction t with
  | zero => simp
  | succ t ih =>
    rw [sum_take_succ (by rw [mostS_length]; omega), ih (by omega), mostS_get (by omega)]
    unfold mostV
    rcases (show t = 0 ∨ 0 < t by omega) with h0 | h0
    · subst h0
      rcases (show k = 1 ∨ 1 < k by omega) with hk | hk
      · subst hk; simp
      · rw [if_pos rfl, if_neg (show ¬ 0 + 1 = k by omega), if_pos rfl, if_neg (by omega)]
        rfl
    · rcases (show t + 1 = k ∨ ¬ t + 1 = k by omega) with hk | hk
      · subst hk
        rw [if_neg (show ¬ t = 0 by omega), if_neg (show ¬ t = t + 1 by omega), if_neg (show ¬ t = 0 by omega), if_pos rfl, if_neg (by omega)]
        omega
      · rw [if_neg (show ¬ t = 0 by omega), if_neg (show ¬ t = k by omega), if_neg (show ¬ t = 0 by omega), if_neg hk, if_neg (by omega)]
        omega
theorem mostS_all (k q : Nat) : (mostS k q).sum = ((if k = 0 then 0 else 1 + q : Nat) : Int) := by
  have h := mostS_sum k q k (Nat.le_refl _)
  rw [List.take_of_length_le (by rw [mostS_length]; omega)] at h
  rw [h]
  simp
theorem mostS_pos (k q : Nat) : ∀ s ∈ mostS k q, 0 ≤ s := by
  intro s hs
  obtain ⟨i, _, rfl⟩ := List.mem_map.1 hs
  omega
theorem mostV_le (k q i : Nat) : mostV k q i ≤ 1 + q := by unfold mostV; split <;> split <;> omega
theorem mostS_64 {k q : Nat} (hq : q ≤ 5000) : All64 (mostS k q) := by
  intro s hs
  obtain ⟨i, _, rfl⟩ := List.mem_map.1 hs
  have := mostV_le k q i
  unfold In64
  omega
theorem mostS_fits (k q : Nat) : fitsL (mostS k q) = decide (1 ≤ k ∧ k ≤ 16 ∧ 1 + q ≤ 4096) := by
  unfold fitsL
  congr 1
  rw [mostS_length, mostS_all]
  refine propext ⟨fun ⟨a, b, _, _, e⟩ => ⟨a, b, ?_⟩, fun ⟨a, b, e⟩ => ⟨a, b, ?_, mostS_pos k q, ?_⟩⟩
  · rw [if_neg (by omega)] at e; omega
  · rw [mostS_get (by omega)]
    unfold mostV
    rw [if_pos rfl]
    omega
  · rw [if_neg (by omega)]; omega
/-- rows of noughts -/
def zeroA (k q t : Nat) : List (List Int) := (List.range t).map (fun i => List.replicate (mostV k q i) (0 : Int))
theorem zeroA_succ (k q t : Nat) : zeroA k q (t + 1) = zeroA k q t ++ [List.replicate (mostV k q t) (0 : Int)] := by simp [zeroA, List.range_succ]
theorem zeroA_length (k q t : Nat) : (zeroA k q t).length = t := by simp [zeroA]
theorem zeroA_sizes (k q : Nat) : sizesL (zeroA k q k) = mostS k q := by
  unfold sizesL zeroA mostS
  rw [List.map_map]
  refine List.map_congr_left (fun i _ => ?_)
  simp
theorem zeroA_sm {k q : Nat} (hk : k ≤ 20) (hq : q ≤ 5000) : Sm (zeroA k q k) := by
  refine ⟨by rw [zeroA_length]; omega, by rw [zeroA_sizes, mostS_all]; split <;> omega, fun s hs x hx => ?_⟩
  obtain ⟨i, _, rfl⟩ := List.mem_map.1 hs
  rw [List.mem_replicate] at hx
  omega
theorem zero_bytes (n : Nat) : AllB (List.replicate n (0 : Int)) := by
  intro x hx
  rw [List.mem_replicate] at hx
  omega
theorem most_cut (k q A : Nat) (hA : ((A : Nat) : Int) = (mostS k q).sum) : cutE (mostS k q) (List.replicate (8 * A) 0) = if fitsL (mostS k q) = true then 0 else 1 := by
  unfold cutE
  rw [List.length_replicate, ← hA]
  split
  · rw [if_pos (by omega)]
  · rfl
/-- a row of noughts of the call's own -/
theorem own_madeU (w : World) (z base : Nat) (hb : base ≤ w.heap.size) (hz : z ≤ 10000) : OwnU (w.alloc (.cells (madeCells #[Value.int .u64 0] z) 44)) base (.slice (some ⟨w.heap.size, 0, none⟩) z z) (List.replicate z 0) := by
  unfold OwnU OwnN
  refine ⟨by simp, .inr ⟨w.heap.size, z, madeCells #[Value.int .u64 0] z, by simp, hb, blk_alloc_new _ _, by simp, by unfold maxLen; omega, by simp [madeCells], ?_⟩⟩
  rw [toList_madeCells_one]
  simp
theorem row_num {w : World} {g n : Nat} {l : List Int} (h : w.rowIs g 3 n (fun i => .int .i64 (l[i]?.getD 0))) (hn : l.length = n) (hn2 : n ≤ 1000) : NumS .i64 w w.heap.size (.slice (some ⟨g, 0, none⟩) n n) l :=
  ⟨_, n, by rw [hn], by omega, by omega, fun _ => ⟨g, 0, rfl, h.lt, fun j hj => by rw [Nat.zero_add]; exact h.cell (by omega)⟩⟩

end Go.Proofs.Ythinhknfiaohlaa
