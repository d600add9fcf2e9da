/-
  Layer 9: the law ReadKinds: what follows once the node stands.
-/
import Derived.Test.YtmcnnihhnapjpaaDoorZRdLawsC

namespace Go.Proofs.YtmcnnihhnapjpaaDoor
open Go.RowKit Go.Deep

theorem wordsB_in {c : List Int} (h : ∀ x ∈ c, 0 ≤ x ∧ x ≤ 255) : ∀ z ∈ wordsB c, InU z := by
  intro z hz
  unfold wordsB at hz
  obtain ⟨i, _, rfl⟩ := List.mem_map.1 hz
  have hb : AllB ((c.drop (8 * i)).take 8) := fun x hx => h x (List.mem_of_mem_drop (List.mem_of_mem_take hx))
  have h1 := getV_nonneg hb
  have h2 := getV_lt8 hb (by simp; omega)
  unfold InU
  omega
theorem kinds_in {z : Int} {w b : List Int} (h : LeafT z w b) (hw : ∀ x ∈ w, 0 ≤ x ∧ x ≤ 255) (hb : ∀ x ∈ b, 0 ≤ x ∧ x ≤ 255) : AllU (buildT (.mk 2 z w b []) 200).1 ∧ (buildT (.mk 2 z w b []) 200).1.length ≤ 1000000000 := by
  rw [leaf_build h]
  refine ⟨allu_one (fun x hx => ?_), by simp⟩
  rcases List.mem_cons.1 hx with rfl | hx
  · unfold nearW; exact encW_bd _
  · unfold contentT at hx
    simp only [Tr.words, Tr.bytes, Tr.kids, List.length_nil, List.replicate_zero, List.append_nil] at hx
    rcases List.mem_append.1 hx with hx | hx
    · have := hw x hx; exact ⟨this.1, by omega⟩
    · exact wordsB_in hb x hx
theorem nbox_set2 {w : World} {g : Nat} {k z : Int} {vw vb vk : Value} (h : TBox w g k z vw vb vk) (x : Value) : TBox (w.setCell ⟨g, 2, none⟩ x) g k z x vb vk := by
  have := heap_setCell_same _ g 2 _ _ x h
  unfold TBox
  rw [this]
  simp [cellsT]
theorem nbox_kept {w w' : World} {g : Nat} {k z : Int} {vw vb vk : Value} {row : Option Nat} (h : TBox w g k z vw vb vk) (hg : w.grownBy w' row) (hne : row ≠ some g) : TBox w' g k z vw vb vk := (hg.block g h.lt (fun e => hne e.symm)).trans h
theorem nbox_frozen {w : World} {g : Nat} {k z : Int} {vw vb vk : Value} (h : TBox w g k z vw vb vk) (j : Nat) : w.frozen? ⟨g, j, none⟩ = false := by
  unfold TBox at h
  simp [World.frozen?, h]
theorem ownu_below {w : World} {base g : Nat} {v : Value} {xs : List Int} (h : OwnU w base v xs) (hg : g < base) (j : Nat) (x : Value) : OwnU (w.setCell ⟨g, j, none⟩ x) base v xs := by
  obtain ⟨h1, h2 | ⟨k, c, cur, e, hk, hh, r⟩⟩ := h
  · exact ⟨h1, .inl h2⟩
  · exact ⟨h1, .inr ⟨k, c, cur, e, hk, (blk_setCell_other _ _ _ _ (by show k ≠ g; omega)).trans hh, r⟩⟩
theorem int_one (w : World) : NumS .i64 (w.alloc (.cells #[.int .i64 0] 3)) (w.alloc (.cells #[.int .i64 0] 3)).heap.size (.slice (some ⟨w.heap.size, 0, none⟩) 1 1) [0] := by
  refine ⟨_, 1, rfl, by simp, by omega, fun _ => ⟨w.heap.size, 0, rfl, by simp, fun j hj => ?_⟩⟩
  obtain rfl : j = 0 := by simp at hj; omega
  have := cell_one_new w (.int .i64 0) 3 0 (.int .i64 0) rfl
  rwa [Addr.add_lit] at this

end Go.Proofs.YtmcnnihhnapjpaaDoor
