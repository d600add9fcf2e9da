/-
  Plain facts for layer 5 (timer): what Set, Drop, Next and Due come to. No program is named here.
-/
import Derived.Test.YtlhfgiffdfcplaaTimDoes
namespace Go.Proofs.Ytlhfgiffdfcplaa

def Keys (l : List Sp) : Prop := (l.map (·.1)).Nodup
theorem ahead_iff {s b : Sp} : ahead s b = true ↔ s.2 < b.2 ∨ (s.2 = b.2 ∧ s.1 < b.1) := by simp [ahead]
theorem ahead_no {s b : Sp} : ahead s b = false ↔ ¬ (s.2 < b.2 ∨ (s.2 = b.2 ∧ s.1 < b.1)) := by rw [← ahead_iff, Bool.not_eq_true]
theorem nextTo_least (l : List Sp) : ∀ t, t ≤ l.length → ∀ i, i < t → ahead (l[i]?.getD (0, 0)) (nextTo l t) = false := by
  intro t
  induction t with
  | zero => intro _ i hi; omega
  | succ t ih =>
    intro ht i hi
    rw [nextTo]
    have h := ih (by omega)
    split
    · rename_i hc
      by_cases e : i = t
      · subst e; rw [ahead_no]; omega
      · rcases hc with hc | hc
        · omega
        · have h1 := ahead_no.1 (h i (by omega))
          have h2 := ahead_iff.1 hc
          rw [ahead_no]; omega
    · rename_i hc
      by_cases e : i = t
      · subst e
        rw [Bool.eq_false_iff]
        exact fun h2 => hc (.inr h2)
      · exact h i (by omega)
theorem next_least {l : List Sp} {s : Sp} (h : s ∈ l) : ahead s (nextL l) = false := by
  obtain ⟨i, hi, rfl⟩ := List.getElem_of_mem h
  have := nextTo_least l l.length (Nat.le_refl _) i hi
  rwa [List.getElem?_eq_getElem hi] at this
theorem next_key {l : List Sp} (hk : Keys l) {s t : Sp} (hs : s ∈ l) (ht : t ∈ l) (e : s.1 = t.1) : s = t := by
  obtain ⟨i, hi, rfl⟩ := List.getElem_of_mem hs
  obtain ⟨j, hj, rfl⟩ := List.getElem_of_mem ht
  have : i = j := by
    have hp := List.pairwise_iff_getElem.1 hk
    rcases Nat.lt_trichotomy i j with h | h | h
    · exact (hp i j (by simpa using hi) (by simpa using hj) h (by rw [List.getElem_map, List.getElem_map]; exact e)).elim
    · exact h
    · exact (hp j i (by simpa using hj) (by simpa using hi) h (by rw [List.getElem_map, List.getElem_map]; exact e.symm)).elim
  subst this
  rfl
theorem next_first {l : List Sp} (hk : Keys l) {s : Sp} (h : s ∈ l) (hn : s ≠ nextL l) : ahead (nextL l) s = true := by
  have h1 := ahead_no.1 (next_least h)
  have hm := nextL_mem (l := l) (List.length_pos_of_mem h)
  have h2 : s.1 ≠ (nextL l).1 := fun e => hn (next_key hk h hm e)
  rw [ahead_iff]; omega
theorem next_is {l : List Sp} {x : Sp} (hx : x ∈ l) (h : ∀ s ∈ l, s ≠ x → ahead x s = true) : nextL l = x := by
  have hm := nextL_mem (l := l) (List.length_pos_of_mem hx)
  refine Classical.byContradiction (fun e => ?_)
  have h1 := ahead_iff.1 (h _ hm e)
  have h2 := ahead_no.1 (next_least hx)
  omega
theorem drop_keys {l : List Sp} (hk : Keys l) (key : Int) : Keys (dropL l key) := by
  unfold Keys dropL
  exact hk.sublist (List.Sublist.map _ List.filter_sublist)
theorem drop_mem {l : List Sp} {key : Int} {s : Sp} : s ∈ dropL l key ↔ s ∈ l ∧ s.1 ≠ key := by
  unfold dropL
  rw [List.mem_filter]
  simp

/-! ### Due -/
theorem due_ind {now : Int} {M : List Sp → List Sp × List Int → Prop} (h0 : ∀ l, (l.length = 0 ∨ now < (nextL l).2) → M l (l, []))
    (h1 : ∀ l r, 0 < l.length → ¬ now < (nextL l).2 → M (dropL l (nextL l).1) r → M l (r.1, (nextL l).1 :: r.2)) : ∀ l, M l (dueL l now) := by
  intro l
  induction hn : l.length using Nat.strongRecOn generalizing l with
  | _ n ih =>
    by_cases hc : l.length = 0 ∨ now < (nextL l).2
    · rw [due_end hc]; exact h0 l hc
    · have hp : 0 < l.length := by omega
      have h2 : ¬ now < (nextL l).2 := fun h => hc (.inr h)
      rw [due_step hp h2]
      exact h1 l _ hp h2 (ih _ (by rw [← hn]; exact drop_less (nextL_mem hp)) _ rfl)
/-- what is left: those that are later -/
theorem due_left (now : Int) : ∀ l, Keys l → (dueL l now).1 = l.filter (fun s => decide (now < s.2)) := by
  refine due_ind (M := fun l r => Keys l → r.1 = l.filter (fun s => decide (now < s.2))) ?_ ?_
  · intro l hc hk
    rcases hc with hc | hc
    · rw [List.eq_nil_of_length_eq_zero hc]; rfl
    · symm
      refine List.filter_eq_self.2 (fun s hs => decide_eq_true ?_)
      have := ahead_no.1 (next_least hs)
      omega
  · intro l r hp h2 ih hk
    simp only
    rw [ih (drop_keys hk _)]
    unfold dropL
    rw [List.filter_filter]
    refine List.filter_congr (fun s hs => ?_)
    by_cases e : s.1 = (nextL l).1
    · have := next_key hk hs (nextL_mem hp) e
      subst this
      simp
      omega
    · simp [e]
/-- how many are due -/
theorem due_count (now : Int) : ∀ l, Keys l → (dueL l now).2.length + (dueL l now).1.length = l.length := by
  refine due_ind (M := fun l r => Keys l → r.2.length + r.1.length = l.length) ?_ ?_
  · intro l _ _; simp
  · intro l r hp _ ih hk
    have h1 := ih (drop_keys hk _)
    have h2 : (dropL l (nextL l).1).length + 1 = l.length := by
      have hm := nextL_mem hp
      have e : (l.map (·.1)).erase (nextL l).1 = (dropL l (nextL l).1).map (·.1) := by
        rw [List.Nodup.erase_eq_filter hk]
        unfold dropL
        rw [List.filter_map]
        congr 1
      have h3 := List.length_erase_of_mem (List.mem_map_of_mem (f := (·.1)) hm)
      rw [e, List.length_map, List.length_map] at h3
      omega
    simp only [List.length_cons]
    omega
/-- each that is due was there, and is not later -/
theorem due_mem (now : Int) : ∀ l, Keys l → ∀ k ∈ (dueL l now).2, ∃ s ∈ l, s.1 = k ∧ s.2 ≤ now := by
  refine due_ind (M := fun l r => Keys l → ∀ k ∈ r.2, ∃ s ∈ l, s.1 = k ∧ s.2 ≤ now) ?_ ?_
  · intro l _ _ k hk; simp at hk
  · intro l r hp h2 ih hk k hkm
    rcases List.mem_cons.1 hkm with rfl | h
    · exact ⟨nextL l, nextL_mem hp, rfl, by omega⟩
    · obtain ⟨s, hs, e, h3⟩ := ih (drop_keys hk _) k h
      exact ⟨s, (drop_mem.1 hs).1, e, h3⟩
/-- they come in order -/
theorem due_order (now : Int) : ∀ l, Keys l → (dueL l now).2.Pairwise (fun a b => ∀ s ∈ l, ∀ t ∈ l, s.1 = a → t.1 = b → ahead s t = true) := by
  refine due_ind (M := fun l r => Keys l → r.2.Pairwise (fun a b => ∀ s ∈ l, ∀ t ∈ l, s.1 = a → t.1 = b → ahead s t = true) ∧ ∀ k ∈ r.2, ∃ s ∈ l, s.1 = k) ?_ ?_ |> fun h => fun l hk => (h l hk).1
  · intro l _ _; exact ⟨List.Pairwise.nil, fun k hk => by simp at hk⟩
  · intro l r hp h2 ih hk
    obtain ⟨i1, i2⟩ := ih (drop_keys hk _)
    have hm := nextL_mem hp
    refine ⟨List.pairwise_cons.2 ⟨fun b hb s hs t ht es et => ?_, ?_⟩, fun k hkm => ?_⟩
    · obtain ⟨u, hu, eu⟩ := i2 b hb
      have e1 := next_key hk hs hm es
      subst e1
      refine next_first hk ht (fun e => ?_)
      have hu2 := drop_mem.1 hu
      have : t = u := next_key hk ht hu2.1 (by omega)
      subst this
      exact hu2.2 (by rw [e])
    · refine i1.imp_of_mem ?_
      intro a b ha hb h s hs t ht es et
      obtain ⟨u, hu, eu⟩ := i2 a ha
      obtain ⟨v, hv, ev⟩ := i2 b hb
      have hu2 := drop_mem.1 hu
      have hv2 := drop_mem.1 hv
      have e1 : s = u := next_key hk hs hu2.1 (by omega)
      have e2 : t = v := next_key hk ht hv2.1 (by omega)
      subst e1 e2
      exact h s hu t hv es et
    · rcases List.mem_cons.1 hkm with rfl | h
      · exact ⟨_, hm, rfl⟩
      · obtain ⟨u, hu, eu⟩ := i2 k h
        exact ⟨u, (drop_mem.1 hu).1, eu⟩
/-- by two steps of time what is due by one -/
theorem due_parts {lo hi : Int} (hlh : lo ≤ hi) : ∀ l, dueL l hi = ((dueL (dueL l lo).1 hi).1, (dueL l lo).2 ++ (dueL (dueL l lo).1 hi).2) := by
  refine due_ind (now := lo) (M := fun l r => dueL l hi = ((dueL r.1 hi).1, r.2 ++ (dueL r.1 hi).2)) ?_ ?_
  · intro l _; simp
  · intro l r hp h2 ih
    rw [due_step hp (by omega), ih]
    simp

end Go.Proofs.Ytlhfgiffdfcplaa
