/-
  Plain facts for layer 3's law BitsSets: bits that are set one behind the other.
-/
import Derived.Test.YtdphkgknjgdjoaaBitsLawsC
namespace Go.Proofs.Ytdphkgknjgdjoaa
open Go.RowKit Go.Deep

theorem cntTo_set {l : List Int} (hl : AllB l) {x : Nat} (hx : x < 8 * l.length) (hb : bt l x = false) (t : Nat) : cntTo (setL l (x : Nat)) t = cntTo l t + if x < t then 1 else 0 := by
  have hh : hasB l.length (x : Nat) = true := by simp [hasB]; omega
  induction t with
  | zero => rfl
  | succ t ih =>
    rw [cntTo_succ, cntTo_succ, ih, bt_setL hl, hh, Bool.true_and]
    by_cases e : t = x
    · subst e
      rw [hb]
      simp
    · have e2 : decide ((t : Int) = (x : Int)) = false := decide_eq_false (by omega)
      rw [e2, Bool.or_false]
      by_cases h1 : x < t
      · rw [if_pos h1, if_pos (show x < t + 1 by omega)]; omega
      · rw [if_neg h1, if_neg (show ¬ x < t + 1 by omega), Nat.add_zero, Nat.add_zero]
theorem cntL_set {l : List Int} (hl : AllB l) {x : Nat} (hx : x < 8 * l.length) (hb : bt l x = false) : cntL (setL l (x : Nat)) = cntL l + 1 := by
  rw [← cntTo_all, ← cntTo_all, setL_length, cntTo_set hl hx hb, if_pos hx]

/-- what was set of the first t told -/
def setTo (M : Nat) (l : List Int) (t : Nat) : List Int := (l.take t).foldl setL (List.replicate M 0)
theorem setTo_zero (M : Nat) (l : List Int) : setTo M l 0 = List.replicate M 0 := by simp [setTo]
theorem setTo_succ (M : Nat) {l : List Int} {t : Nat} (h : t < l.length) : setTo M l (t + 1) = setL (setTo M l t) (l[t]?.getD 0) := by
  unfold setTo
  rw [List.take_add_one, List.foldl_append]
  simp [h]
theorem setTo_is (M : Nat) (l : List Int) : ∀ t, t ≤ l.length → (setTo M l t).length = M ∧ AllB (setTo M l t) := by
  intro t
  induction t with
  | zero => intro _; rw [setTo_zero]; exact ⟨List.length_replicate, zerosL_AllB M⟩
  | succ t ih =>
    intro ht
    obtain ⟨h1, h2⟩ := ih (by omega)
    rw [setTo_succ M (by omega)]
    exact ⟨(setL_length _ _).trans h1, setL_AllB h2 _⟩
theorem cnt_zeros (M : Nat) : cntL (List.replicate M 0) = 0 := by
  have : onesL (List.replicate M 0) = [] := by
    rw [List.eq_nil_iff_forall_not_mem]
    intro i hi
    rw [mem_onesL, bt_zeros] at hi
    cases hi
  unfold cntL
  rw [this]; rfl
/-- the bit is there, and was not set -/
theorem set_new {b : List Int} {x M : Nat} (hl : AllB b) (hM : b.length = M) (hx : x / 8 < M) (h : bt b x = false) :
    cntL (setL b (x : Nat)) = cntL b + 1 ∧ ∀ j, (if j = x then Value.bool true else Value.bool (bt b j)) = Value.bool (bt (setL b (x : Nat)) j) := by
  refine ⟨cntL_set hl (by omega) h, fun j => ?_⟩
  rw [bt_setL hl, show hasB b.length (x : Nat) = true by simp [hasB]; omega, Bool.true_and]
  by_cases e : j = x
  · subst e; rw [if_pos rfl, decide_eq_true rfl, Bool.or_true]
  · rw [if_neg e, decide_eq_false (by omega), Bool.or_false]
theorem set_old {b : List Int} {x : Nat} (hl : AllB b) (h : bt b x = true) : setL b (x : Nat) = b := setL_had hl (by rw [getB_nat]; exact h)
theorem set_out {b : List Int} {x M : Nat} (hM : b.length = M) (hx : M ≤ x / 8) : setL b (x : Nat) = b := by
  unfold setL
  rw [if_neg (by omega)]

/-- the first t of m bits -/
def allTo (M t : Nat) : List Int := (List.range t).foldl (fun o j => setL o (j : Nat)) (List.replicate M 0)
theorem allTo_zero (M : Nat) : allTo M 0 = List.replicate M 0 := rfl
theorem allTo_succ (M t : Nat) : allTo M (t + 1) = setL (allTo M t) (t : Nat) := by
  unfold allTo
  rw [List.range_succ, List.foldl_append, List.foldl_cons, List.foldl_nil]
theorem allTo_is (M : Nat) : ∀ t, t ≤ 8 * M → (allTo M t).length = M ∧ AllB (allTo M t) ∧ ∀ j, bt (allTo M t) j = decide (j < t) := by
  intro t
  induction t with
  | zero => intro _; rw [allTo_zero]; exact ⟨List.length_replicate, zerosL_AllB M, fun j => by rw [bt_zeros, decide_eq_false (by omega)]⟩
  | succ t ih =>
    intro ht
    obtain ⟨h1, h2, h3⟩ := ih (by omega)
    rw [allTo_succ]
    refine ⟨(setL_length _ _).trans h1, setL_AllB h2 _, fun j => ?_⟩
    rw [bt_setL h2, h3, h1, show hasB M (t : Nat) = true by simp [hasB]; omega, Bool.true_and, Bool.eq_iff_iff, Bool.or_eq_true, decide_eq_true_iff, decide_eq_true_iff, decide_eq_true_iff]
    omega
theorem cntTo_first {l : List Int} {m : Nat} (h : ∀ j, bt l j = decide (j < m)) (t : Nat) : cntTo l t = min t m := by
  induction t with
  | zero => simp [cntTo]
  | succ t ih =>
    rw [cntTo_succ, ih, h]
    by_cases e : t < m
    · rw [decide_eq_true e, if_pos rfl]; omega
    · rw [decide_eq_false e, if_neg (by decide)]; omega
theorem all_cnt {l : List Int} {m : Nat} (hm : m ≤ 8 * l.length) (h : ∀ j, bt l j = decide (j < m)) : cntL l = m := by
  rw [← cntTo_all, cntTo_first h]; omega
theorem all_first {l : List Int} {m : Nat} (hm : m ≤ 65536) (h : ∀ j, bt l j = decide (j < m)) : firstV l (m : Nat) = (m : Nat) := by
  rw [first_nat hm, ← fst_eq (k := m) ⟨Nat.le_refl _, fun i hi => by rw [h]; exact decide_eq_true hi, .inl rfl⟩]
theorem all_right {l : List Int} {m : Nat} (hm : m ≤ 65536) (hl : l.length = makeN (m : Nat)) (h : ∀ j, bt l j = decide (j < m)) : rightOK l (m : Nat) = true := by
  unfold rightOK
  rw [decide_eq_true (by omega), Bool.true_and]
  exact noneFrom_iff.2 (fun i hi => by rw [h]; exact decide_eq_false (by simpa using hi))

end Go.Proofs.Ytdphkgknjgdjoaa
