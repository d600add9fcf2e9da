/-
  Plain facts for layer 10 (tree): the steps of a path that is told are few. No program is named here.
-/
import Derived.Test.YtdfldfnjjjcleaaDoorZTdPlain

namespace Go.Proofs.YtdfldfnjjjcleaaDoor

theorem deep_lens {k z : Int} {w b : List Int} {ks : List Tr} {left : Nat} (h : deepB (.mk k z w b ks) left = true) : w.length + b.length ≤ 4096 ∧ ks.length ≤ 4096 ∧ deepAll ks (left - 1) = true := by
  unfold deepB at h
  by_cases hk : k = 0
  · rw [if_pos hk] at h
    obtain ⟨h1, h2⟩ := of_decide_eq_true h
    obtain rfl : ks = [] := List.eq_nil_of_length_eq_zero (by omega)
    exact ⟨by omega, by simp, by unfold deepAll; rfl⟩
  · rw [if_neg hk, Bool.and_eq_true, Bool.and_eq_true] at h
    obtain ⟨h1, h2, h3⟩ := h
    refine ⟨?_, ?_, h3⟩
    · unfold oneB at h1
      split at h1
      · have := of_decide_eq_true h1; omega
      · have := of_decide_eq_true h1; omega
    · unfold oneB at h1
      split at h1
      · have := of_decide_eq_true h1; omega
      · have := of_decide_eq_true h1; omega
mutual
theorem fullP_in : (t : Tr) → (left : Nat) → deepB t left = true → ∀ p ∈ fullP t, (∀ k ∈ p.1, 0 ≤ k ∧ k ≤ 4096) ∧ -1 ≤ p.2 ∧ p.2 ≤ 4096
  | .mk k z w b ks, left, h, p, hp => by
    obtain ⟨h1, h2, h3⟩ := deep_lens h
    unfold fullP at hp
    rcases List.mem_cons.1 hp with rfl | hp
    · exact ⟨fun k hk => by simp at hk, by decide, by decide⟩
    · rcases List.mem_append.1 hp with hp | hp
      · obtain ⟨i, hi, rfl⟩ := List.mem_map.1 hp
        have := List.mem_range.1 hi
        exact ⟨fun k hk => by simp at hk, by simp only; omega, by simp only; omega⟩
      · exact fullK_in ks 0 (left - 1) (by omega) h3 p hp
theorem fullK_in : (l : List Tr) → (j left : Nat) → j + l.length ≤ 4097 → deepAll l left = true → ∀ p ∈ fullK l j, (∀ k ∈ p.1, 0 ≤ k ∧ k ≤ 4096) ∧ -1 ≤ p.2 ∧ p.2 ≤ 4096
  | [], _, _, _, _, p, hp => by unfold fullK at hp; simp at hp
  | t :: r, j, left, hj, h, p, hp => by
    unfold deepAll at h
    rw [Bool.and_eq_true] at h
    unfold fullK at hp
    rw [List.length_cons] at hj
    rcases List.mem_append.1 hp with hp | hp
    · obtain ⟨q, hq, rfl⟩ := List.mem_map.1 hp
      obtain ⟨a1, a2, a3⟩ := fullP_in t left h.1 q hq
      refine ⟨fun k hk => ?_, a2, a3⟩
      rcases List.mem_cons.1 hk with rfl | hk
      · omega
      · exact a1 k hk
    · exact fullK_in r (j + 1) left (by omega) h.2 p hp
end
/-- what is told of a tree of choices -/
theorem told_of {t : Tr} {n : Nat} (hd : deepB t n = true) (hn : n ≤ 32) (most : Int) : ∀ j, (hj : j < (pathsT t most).length) → Leads t ((pathsT t most)[j]) ∧ ((pathsT t most)[j]).1.length ≤ 32 ∧ (∀ k ∈ ((pathsT t most)[j]).1, 0 ≤ k ∧ k ≤ 4096) ∧ -1 ≤ ((pathsT t most)[j]).2 ∧ ((pathsT t most)[j]).2 ≤ 4096 := by
  intro j hj
  have hm : (pathsT t most)[j] ∈ fullP t := by
    unfold pathsT
    exact List.mem_of_mem_take (List.getElem_mem _)
  obtain ⟨h1, h2⟩ := fullP_leads n t hd _ hm
  exact ⟨h1, by omega, fullP_in t n hd _ hm⟩
theorem told_apart (t : Tr) (most : Int) (i j : Nat) (hi : i < (pathsT t most).length) (hj : j < (pathsT t most).length) : (pathsT t most)[i] = (pathsT t most)[j] ↔ i = j := by
  have hn : (pathsT t most).Nodup := by
    unfold pathsT
    exact List.Nodup.sublist (List.take_sublist _ _) (fullP_nodup t)
  refine ⟨fun h => ?_, fun h => by subst h; rfl⟩
  exact (List.getElem_inj hn).1 h
theorem told_some (t : Tr) {most : Int} (h : 1 ≤ most) : 0 < (pathsT t most).length ∧ (pathsT t most).length ≤ 10000 := by
  obtain ⟨k, z, w, b, ks⟩ := t
  unfold pathsT fullP
  rw [List.length_take, List.length_cons]
  omega

end Go.Proofs.YtdfldfnjjjcleaaDoor
