/-
  Plain facts for layer 7 (arena): sizes and places. No program is named here.
-/
import Derived.Test.YthinhknfiaohlaaNumS
namespace Go.Proofs.Ythinhknfiaohlaa

/-- may there be segments of these sizes? -/
def fitsL (l : List Int) : Bool := decide (1 ≤ l.length ∧ l.length ≤ 16 ∧ (1 : Int) ≤ l[0]?.getD 0 ∧ (∀ s ∈ l, 0 ≤ s) ∧ l.sum ≤ 4096)
def withinB (l : List Int) (seg at_ n : Int) : Bool := decide (0 ≤ seg ∧ seg < l.length ∧ 0 ≤ at_ ∧ 0 ≤ n ∧ at_ ≤ l[seg.toNat]?.getD 0 ∧ n ≤ l[seg.toNat]?.getD 0 - at_)
def placeI (l : List Int) (seg at_ : Int) : Int := if fitsL l = true ∧ withinB l seg at_ 1 = true then at_ + (l.take seg.toNat).sum else -1

theorem sum_take_succ {l : List Int} {t : Nat} (h : t < l.length) : (l.take (t + 1)).sum = (l.take t).sum + l[t]?.getD 0 := by
  rw [List.take_add_one, List.sum_append, List.getElem?_eq_getElem h]
  simp only [Option.toList_some, List.sum_cons, List.sum_nil, Option.getD_some]
  omega
theorem sum_nonneg : ∀ {l : List Int}, (∀ s ∈ l, 0 ≤ s) → 0 ≤ l.sum := by
  intro l
  induction l with
  | nil => intro _; simp
  | cons x l ih =>
    intro h
    have h1 := h x (List.mem_cons_self ..)
    have h2 := ih (fun s hs => h s (List.mem_cons_of_mem _ hs))
    rw [List.sum_cons]
    omega
theorem sum_split (l : List Int) (t : Nat) : l.sum = (l.take t).sum + (l.drop t).sum := by
  conv => lhs; rw [← List.take_append_drop t l]
  rw [List.sum_append]
/-- so far all is well: none is below 0, and together they are at most 4096 -/
def FitTo (l : List Int) (t : Nat) : Prop := (∀ s ∈ l.take t, 0 ≤ s) ∧ 0 ≤ (l.take t).sum ∧ (l.take t).sum ≤ 4096
theorem FitTo.zero (l : List Int) : FitTo l 0 := ⟨fun s h => by simp at h, by simp, by simp⟩
theorem FitTo.next {l : List Int} {t : Nat} (h : FitTo l t) (ht : t < l.length) (h1 : 0 ≤ l[t]?.getD 0) (h2 : l[t]?.getD 0 ≤ 4096 - (l.take t).sum) : FitTo l (t + 1) := by
  obtain ⟨a, b, c⟩ := h
  refine ⟨fun s hs => ?_, by rw [sum_take_succ ht]; omega, by rw [sum_take_succ ht]; omega⟩
  rw [List.take_add_one, List.getElem?_eq_getElem ht] at hs
  rw [List.getElem?_eq_getElem ht] at h1
  rcases List.mem_append.1 hs with hs | hs
  · exact a s hs
  · simp at hs
    subst hs
    exact h1
theorem fits_not {l : List Int} {t : Nat} (ht : t < l.length) (hb : l[t]?.getD 0 < 0 ∨ 4096 - (l.take t).sum < l[t]?.getD 0) : fitsL l = false := by
  refine decide_eq_false (fun ⟨_, _, _, h4, h5⟩ => ?_)
  have hm : l[t]?.getD 0 ∈ l := by rw [List.getElem?_eq_getElem ht]; exact List.getElem_mem ht
  have h6 := h4 _ hm
  have h7 := sum_split l (t + 1)
  rw [sum_take_succ ht] at h7
  have h8 : 0 ≤ (l.drop (t + 1)).sum := sum_nonneg (fun s hs => h4 s (List.mem_of_mem_drop hs))
  omega
theorem fits_yes {l : List Int} (h : FitTo l l.length) (h1 : 1 ≤ l.length) (h2 : l.length ≤ 16) (h3 : (1 : Int) ≤ l[0]?.getD 0) : fitsL l = true := by
  obtain ⟨a, b, c⟩ := h
  rw [List.take_length] at a c
  exact decide_eq_true ⟨h1, h2, h3, a, c⟩
theorem fits_all {l : List Int} (h : fitsL l = true) : 1 ≤ l.length ∧ l.length ≤ 16 ∧ (1 : Int) ≤ l[0]?.getD 0 ∧ (∀ s ∈ l, 0 ≤ s) ∧ l.sum ≤ 4096 := of_decide_eq_true h
/-- of sizes that fit a front has no more -/
theorem fits_take {l : List Int} (h : fitsL l = true) (t : Nat) : 0 ≤ (l.take t).sum ∧ (l.take t).sum ≤ 4096 := by
  obtain ⟨_, _, _, h4, h5⟩ := fits_all h
  have h7 := sum_split l t
  have h8 : 0 ≤ (l.drop t).sum := sum_nonneg (fun s hs => h4 s (List.mem_of_mem_drop hs))
  exact ⟨sum_nonneg (fun s hs => h4 s (List.mem_of_mem_take hs)), by omega⟩

end Go.Proofs.Ythinhknfiaohlaa
