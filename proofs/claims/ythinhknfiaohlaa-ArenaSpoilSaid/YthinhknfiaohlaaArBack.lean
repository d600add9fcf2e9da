/-
  Layer 7, plain facts: what was laid as bytes is cut as it was.
-/
import Derived.Test.YthinhknfiaohlaaArLawsE
import Derived.Test.YthinhknfiaohlaaArLawsD
namespace Go.Proofs.Ythinhknfiaohlaa
open Go.RowKit Go.Deep

theorem bytesA_flat (ls : List (List Int)) : bytesA ls = segB ls.flatten := by
  induction ls with
  | nil => rfl
  | cons s ls ih =>
    unfold bytesA at *
    rw [List.flatMap_cons, ih, List.flatten_cons]
    unfold segB
    rw [List.flatMap_append]
theorem segB_cons (x : Int) (s : List Int) : segB (x :: s) = putL x 8 ++ segB s := by unfold segB; rw [List.flatMap_cons]
theorem put_drop (x : Int) (l : List Int) : (putL x 8 ++ l).drop 8 = l := List.drop_left' (putL_length x 8)
theorem put_take (x : Int) (l : List Int) : (putL x 8 ++ l).take 8 = putL x 8 := List.take_left' (putL_length x 8)
theorem segB_drop (s : List Int) (q : Nat) (h : q ≤ s.length) : (segB s).drop (8 * q) = segB (s.drop q) := by
  induction q generalizing s with
  | zero => rfl
  | succ q ih =>
    match s, h with
    | x :: s, h =>
      rw [List.drop_succ_cons, segB_cons, show 8 * (q + 1) = 8 + 8 * q by omega, ← List.drop_drop, put_drop]
      exact ih s (by simpa using h)
theorem word_seg (s : List Int) (q : Nat) (h : q < s.length) (hu : ∀ x ∈ s, 0 ≤ x ∧ x ≤ 18446744073709551615) : wordAt (segB s) q = s[q]?.getD 0 := by
  unfold wordAt
  rw [segB_drop s q (by omega), List.drop_eq_getElem_cons h, segB_cons, put_take, List.getElem?_eq_getElem h]
  have hx := hu _ (List.getElem_mem h)
  rw [getV_putL hx.1 8, show (2 : Int) ^ (8 * 8) = 18446744073709551616 by decide]
  show s[q] % _ = s[q]
  omega
theorem flat_drop (ls : List (List Int)) (j : Nat) : ls.flatten.drop ((sizesL ls).take j).sum.toNat = (ls.drop j).flatten := by
  induction ls generalizing j with
  | nil => simp [sizesL]
  | cons s ls ih =>
    cases j with
    | zero => simp
    | succ j =>
      have h0 := (sizesL_le ls j).1
      have e : ((sizesL (s :: ls)).take (j + 1)).sum.toNat = s.length + ((sizesL ls).take j).sum.toNat := by
        show (((s.length : Int)) :: (sizesL ls).take j).sum.toNat = _
        rw [List.sum_cons]
        omega
      rw [e, List.flatten_cons, ← List.drop_drop, List.drop_left, List.drop_succ_cons]
      exact ih j
theorem flat_u {ls : List (List Int)} (h : AllU ls) : ∀ x ∈ ls.flatten, 0 ≤ x ∧ x ≤ 18446744073709551615 := by
  intro x hx
  obtain ⟨s, hs, hx⟩ := List.mem_flatten.1 hx
  exact h s hs x hx
/-- each word stands at its place -/
theorem word_at {ls : List (List Int)} (h : AllU ls) (j i : Nat) (hj : j < ls.length) (hi : i < (ls[j]?.getD []).length) : wordAt (bytesA ls) (((sizesL ls).take j).sum.toNat + i) = (ls[j]?.getD [])[i]?.getD 0 := by
  rw [List.getElem?_eq_getElem hj, Option.getD_some] at hi ⊢
  have hd := flat_drop ls j
  rw [List.drop_eq_getElem_cons hj, List.flatten_cons] at hd
  obtain ⟨P, hP⟩ : ∃ P, ((sizesL ls).take j).sum.toNat = P := ⟨_, rfl⟩
  rw [hP] at hd ⊢
  have hl : P + ls[j].length ≤ ls.flatten.length := by
    have := congrArg List.length hd
    rw [List.length_drop, List.length_append] at this
    omega
  rw [bytesA_flat, word_seg _ _ (by omega) (flat_u h)]
  have e : ls.flatten[P + i]? = (ls.flatten.drop P)[i]? := by rw [List.getElem?_drop]
  rw [e, hd, List.getElem?_append_left hi]
theorem cut_back {ls : List (List Int)} (h : AllU ls) : cutTo (sizesL ls) (bytesA ls) (sizesL ls).length = ls := by
  refine arena_ext (by rw [cutTo_length, sizesL_length]) (fun j hj => ?_)
  rw [cutTo_length, sizesL_length] at hj
  unfold cutTo
  rw [List.getElem?_map, List.getElem?_range (by rw [sizesL_length]; exact hj)]
  show cutSeg _ _ _ = _
  rw [sizesL_get hj, Int.toNat_natCast]
  refine row_ext (by rw [cutSeg_length]) (fun i hi => ?_)
  rw [cutSeg_length] at hi
  unfold cutSeg
  rw [List.getElem?_map, List.getElem?_range hi]
  exact word_at h j i hj hi
theorem cut_of {ls : List (List Int)} (h : AllU ls) (hf : fitsL (sizesL ls) = true) : cutE (sizesL ls) (bytesA ls) = 0 ∧ cutR (sizesL ls) (bytesA ls) = ls := by
  have e : cutE (sizesL ls) (bytesA ls) = 0 := by unfold cutE; rw [if_pos hf, if_pos (bytesA_length ls)]
  exact ⟨e, by unfold cutR; rw [if_pos e]; exact cut_back h⟩

end Go.Proofs.Ythinhknfiaohlaa
