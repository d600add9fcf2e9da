/-
  Plain facts for layer 5 (timer): heaps as container/heap keeps them: what one step up, one step down leave. No program is named here.
-/
import Derived.Sort.LotA
namespace Go.Proofs.Ytlhfgiffdfcplaa
open Go.Sort
variable {α : Type} [Inhabited α] {lt : α → α → Bool}

def par (k : Nat) : Nat := (k - 1) / 2
/-- the first n are a heap -/
def HeapN (lt : α → α → Bool) (n : Nat) (d : Array α) : Prop := ∀ k, 0 < k → k < n → lt d[k]! d[par k]! = false
/-- .. but that j may be less than what is above it -/
def UpInv (lt : α → α → Bool) (n : Nat) (d : Array α) (j : Nat) : Prop := (∀ k, 0 < k → k < n → k ≠ j → lt d[k]! d[par k]! = false) ∧ ∀ k, 0 < k → k < n → par k = j → 0 < j → lt d[k]! d[par j]! = false
/-- .. but that what is below i may be less than it (and, while i is where it began, i less than what is above) -/
def DownInv (lt : α → α → Bool) (n : Nat) (d : Array α) (i i0 : Nat) : Prop := (∀ k, 0 < k → k < n → par k ≠ i → (k = i0 → i ≠ i0) → lt d[k]! d[par k]! = false) ∧ ∀ k, 0 < k → k < n → par k = i → 0 < i → lt d[k]! d[par i]! = false

theorem swp_at (d : Array α) {i j : Nat} (hi : i < d.size) (hj : j < d.size) (k : Nat) : (swp d i j)[k]! = if k = j then d[i]! else if k = i then d[j]! else d[k]! := by
  rw [swp_get d hi hj]
omit [Inhabited α] in
theorem le_trans' (hO : SWO lt) {a b c : α} (h1 : lt b a = false) (h2 : lt c b = false) : lt c a = false := hO.ntrans c b a h2 h1
omit [Inhabited α] in
theorem lt_asym (hO : SWO lt) {a b : α} (h : lt a b = true) : lt b a = false := by
  rw [Bool.eq_false_iff]
  intro h2
  have := hO.trans a b a h h2
  rw [hO.irrefl] at this
  cases this

theorem up_done {n : Nat} {d : Array α} {j : Nat} (h : UpInv lt n d j) (hj : j = 0 ∨ lt d[j]! d[par j]! = false) : HeapN lt n d := by
  intro k k0 kn
  by_cases e : k = j
  · subst e
    rcases hj with hj | hj
    · omega
    · exact hj
  · exact h.1 k k0 kn e
theorem up_step (hO : SWO lt) {n : Nat} {d : Array α} {j : Nat} (h : UpInv lt n d j) (j0 : 0 < j) (hn : n ≤ d.size) (hj : j < n) (hl : lt d[j]! d[par j]! = true) : UpInv lt n (swp d (par j) j) (par j) := by
  have hp : par j < j := by unfold par; omega
  have hs := swp_at d (i := par j) (j := j) (by omega) (by omega)
  constructor
  · intro k k0 kn kp
    have hpk : par k < k := by unfold par; omega
    rw [hs k, hs (par k)]
    by_cases e1 : k = j
    · subst e1
      rw [if_pos rfl, if_neg (by omega), if_pos rfl]
      exact lt_asym hO hl
    · rw [if_neg e1, if_neg kp]
      by_cases e2 : par k = j
      · rw [if_pos e2]
        exact h.2 k k0 kn e2 j0
      · rw [if_neg e2]
        by_cases e3 : par k = par j
        · rw [if_pos e3]
          have h1 := h.1 k k0 kn e1
          rw [e3] at h1
          exact le_trans' hO (lt_asym hO hl) h1
        · rw [if_neg e3]
          exact h.1 k k0 kn e1
  · intro k k0 kn kp p0
    have hpk : par k < k := by unfold par; omega
    have hpp : par (par j) < par j := by have : par (par j) = (par j - 1) / 2 := rfl; omega
    have h3 := h.1 (par j) p0 (by omega) (by omega)
    rw [hs k, hs (par (par j)), if_neg (show par (par j) ≠ j by omega), if_neg (show par (par j) ≠ par j by omega)]
    by_cases e1 : k = j
    · rw [if_pos e1]; exact h3
    · rw [if_neg e1, if_neg (by omega)]
      have h1 := h.1 k k0 kn e1
      rw [kp] at h1
      exact le_trans' hO h3 h1

/-- the child that goes up -/
def child (lt : α → α → Bool) (n : Nat) (d : Array α) (i : Nat) : Nat := if 2 * i + 2 < n ∧ lt d[2 * i + 2]! d[2 * i + 1]! = true then 2 * i + 2 else 2 * i + 1
theorem child_par (lt : α → α → Bool) (n : Nat) (d : Array α) (i : Nat) : par (child lt n d i) = i ∧ i < child lt n d i := by
  unfold child par
  split <;> omega
theorem child_in {lt : α → α → Bool} {n : Nat} {d : Array α} {i : Nat} (h : 2 * i + 1 < n) : child lt n d i < n := by
  unfold child
  split <;> omega
theorem child_least (hO : SWO lt) {n : Nat} {d : Array α} {i k : Nat} (k0 : 0 < k) (kn : k < n) (hk : par k = i) : lt d[k]! d[child lt n d i]! = false := by
  have h2 : k = 2 * i + 1 ∨ k = 2 * i + 2 := by unfold par at hk; omega
  unfold child
  split
  · rename_i h
    rcases h2 with rfl | rfl
    · exact lt_asym hO h.2
    · exact hO.irrefl _
  · rename_i h
    rcases h2 with rfl | rfl
    · exact hO.irrefl _
    · rw [Bool.eq_false_iff]
      exact fun h3 => h ⟨kn, h3⟩
theorem down_step (hO : SWO lt) {n : Nat} {d : Array α} {i i0 : Nat} (h : DownInv lt n d i i0) (_hi0 : i0 ≤ i) (hn : n ≤ d.size) (hc : 2 * i + 1 < n) (hl : lt d[child lt n d i]! d[i]! = true) : DownInv lt n (swp d i (child lt n d i)) (child lt n d i) i0 := by
  obtain ⟨c1, c2⟩ := child_par lt n d i
  have c3 := child_in (lt := lt) (d := d) hc
  have c4 := fun k k0 kn hk => child_least (d := d) (i := i) (k := k) (n := n) hO k0 kn hk
  generalize child lt n d i = j at *
  have hs := swp_at d (i := i) (j := j) (by omega) (by omega)
  constructor
  · intro k k0 kn kp kk
    have hpk : par k < k := by unfold par; omega
    rw [hs k, hs (par k), if_neg kp]
    by_cases e1 : k = j
    · rw [if_pos e1, e1, c1, if_pos rfl]
      exact lt_asym hO hl
    · rw [if_neg e1]
      by_cases e2 : k = i
      · rw [if_pos e2, if_neg (by omega)]
        have := h.2 j (by omega) c3 c1 (by omega)
        rw [e2]
        exact this
      · rw [if_neg e2]
        by_cases e3 : par k = i
        · rw [if_pos e3]
          exact c4 k k0 kn e3
        · rw [if_neg e3]
          exact h.1 k k0 kn e3 (fun e => by omega)
  · intro k k0 kn kp _
    have hpk : par k < k := by unfold par; omega
    rw [hs k, c1, hs i, if_neg (show k ≠ j by omega), if_neg (show k ≠ i by omega), if_neg (show i ≠ j by omega), if_pos rfl]
    have := h.1 k k0 kn (by omega) (fun e => by omega)
    rw [kp] at this
    exact this
/-- nothing below i is less: all are in their places, but for i where it began -/
theorem down_stop (hO : SWO lt) {n : Nat} {d : Array α} {i i0 : Nat} (h : DownInv lt n d i i0) (hc : n ≤ 2 * i + 1 ∨ lt d[child lt n d i]! d[i]! = false) : ∀ k, 0 < k → k < n → (k = i0 → i ≠ i0) → lt d[k]! d[par k]! = false := by
  intro k k0 kn kk
  by_cases e : par k = i
  · rw [e]
    rcases hc with hc | hc
    · unfold par at e; omega
    · exact le_trans' hO hc (child_least hO k0 kn e)
  · exact h.1 k k0 kn e kk
theorem down_moved (hO : SWO lt) {n : Nat} {d : Array α} {i i0 : Nat} (h : DownInv lt n d i i0) (hi : i ≠ i0) (hc : n ≤ 2 * i + 1 ∨ lt d[child lt n d i]! d[i]! = false) : HeapN lt n d :=
  fun k k0 kn => down_stop hO h hc k k0 kn (fun _ => hi)
theorem down_stayed (hO : SWO lt) {n : Nat} {d : Array α} {i : Nat} (h : DownInv lt n d i i) (hc : n ≤ 2 * i + 1 ∨ lt d[child lt n d i]! d[i]! = false) : UpInv lt n d i :=
  ⟨fun k k0 kn kk => down_stop hO h hc k k0 kn (fun e => absurd e kk), h.2⟩
theorem down_top (hO : SWO lt) {n : Nat} {d : Array α} {i : Nat} (h : DownInv lt n d i 0) (hc : n ≤ 2 * i + 1 ∨ lt d[child lt n d i]! d[i]! = false) : HeapN lt n d :=
  fun k k0 kn => down_stop hO h hc k k0 kn (fun e => by omega)
/-- of a heap the first is the least -/
theorem heap_least (hO : SWO lt) {n : Nat} {d : Array α} (h : HeapN lt n d) : ∀ k, k < n → lt d[k]! d[0]! = false := by
  intro k
  induction k using Nat.strongRecOn with
  | _ k ih =>
    intro kn
    by_cases e : k = 0
    · subst e; exact hO.irrefl _
    · have hp : par k < k := by unfold par; omega
      exact le_trans' hO (ih (par k) hp (by omega)) (h k (by omega) kn)
/-- what is set anew at i, where all was a heap -/
theorem heap_set (hO : SWO lt) {n : Nat} {d : Array α} (h : HeapN lt n d) {i : Nat} (x : α) : DownInv lt n (d.setIfInBounds i x) i i := by
  have hs : ∀ k, k ≠ i → (d.setIfInBounds i x)[k]! = d[k]! := fun k hk => by simp only [getElem!_def, Array.getElem?_setIfInBounds, if_neg (Ne.symm hk)]
  constructor
  · intro k k0 kn kp kk
    rw [hs k (fun e => kk e rfl), hs (par k) kp]
    exact h k k0 kn
  · intro k k0 kn kp i0
    have hpi : par i < i := by unfold par; omega
    have hpk : par k < k := by unfold par; omega
    rw [hs k (by omega), hs (par i) (by omega)]
    have h1 := h k k0 kn
    rw [kp] at h1
    exact le_trans' hO (h i i0 (by omega)) h1

end Go.Proofs.Ytlhfgiffdfcplaa
