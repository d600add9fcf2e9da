/-
  Plain facts for layer 4 (span): how many places right spans have, counted one by one; holes of holes; spans that are moved. No program is named here.
-/
import Derived.Test.YtmjgpgibifceeaaSpanLawsA
namespace Go.Proofs.Ytmjgpgibifceeaa
open Go.RowKit

/-- how many of N numbers from lo on are told -/
def cntP (p : Int → Bool) (lo : Int) : Nat → Nat
  | 0 => 0
  | N + 1 => cntP p lo N + (p (lo + N)).toNat
theorem cnt_or (p q : Int → Bool) (lo : Int) (N : Nat) (h : ∀ x, p x = true → q x = true → False) : cntP (fun x => p x || q x) lo N = cntP p lo N + cntP q lo N := by
  induction N with
  | zero => rfl
  | succ N ih =>
    have h1 := h (lo + N)
    simp only [cntP, ih]
    cases hp : p (lo + N) <;> cases hq : q (lo + N)
    all_goals simp_all
    all_goals omega
theorem cnt_or_le (p q : Int → Bool) (lo : Int) (N : Nat) : cntP (fun x => p x || q x) lo N ≤ cntP p lo N + cntP q lo N := by
  induction N with
  | zero => exact Nat.le_refl _
  | succ N ih =>
    simp only [cntP]
    cases hp : p (lo + N) <;> cases hq : q (lo + N) <;> simp <;> omega
theorem cnt_le {p q : Int → Bool} (lo : Int) (N : Nat) (h : ∀ x, p x = true → q x = true) : cntP p lo N ≤ cntP q lo N := by
  induction N with
  | zero => exact Nat.le_refl _
  | succ N ih =>
    have h1 := h (lo + N)
    simp only [cntP]
    cases hp : p (lo + N)
    · simp only [Bool.toNat_false]; omega
    · rw [h1 hp]; omega
theorem cnt_congr {p q : Int → Bool} {lo : Int} {N : Nat} (h : ∀ x, lo ≤ x → x < lo + N → p x = q x) : cntP p lo N = cntP q lo N := by
  induction N with
  | zero => rfl
  | succ N ih =>
    simp only [cntP]
    rw [ih (fun x h1 h2 => h x h1 (by omega)), h (lo + N) (by omega) (by omega)]
theorem cnt_int {a b lo : Int} {N : Nat} (h1 : lo ≤ a) (h2 : a ≤ b) (h3 : b ≤ lo + N) : (cntP (fun x => decide (a ≤ x ∧ x < b)) lo N : Int) = b - a := by
  induction N generalizing b with
  | zero => simp only [cntP]; omega
  | succ N ih =>
    simp only [cntP]
    by_cases h4 : b ≤ lo + N
    · have := ih h2 h4
      rw [decide_eq_false (fun h => by omega)]
      simp only [Bool.toNat_false]
      omega
    · by_cases h5 : a = b
      · have : cntP (fun x => decide (a ≤ x ∧ x < b)) lo N = cntP (fun _ => false) lo N := cnt_congr (fun x _ _ => decide_eq_false (fun h => by omega))
        rw [this, decide_eq_false (fun h => by omega)]
        have hz : ∀ M, cntP (fun _ => false) lo M = 0 := fun M => by induction M with | zero => rfl | succ M ih => simp only [cntP, ih, Bool.toNat_false]
        rw [hz]
        simp only [Bool.toNat_false]
        omega
      · have e := ih (b := b - 1) (by omega) (by omega)
        have : cntP (fun x => decide (a ≤ x ∧ x < b)) lo N = cntP (fun x => decide (a ≤ x ∧ x < b - 1)) lo N := cnt_congr (fun x _ h => by congr 1; apply propext; omega)
        rw [this, decide_eq_true (by omega)]
        simp only [Bool.toNat_true]
        omega

def inB (l : List Sp) (x : Int) : Bool := l.any (fun s => decide (s.1 ≤ x ∧ x < s.2))
theorem inB_iff {l : List Sp} {x : Int} : inB l x = true ↔ places l x := by
  unfold inB places
  rw [List.any_eq_true]
  constructor
  · rintro ⟨s, h1, h2⟩; exact ⟨s, h1, of_decide_eq_true h2⟩
  · rintro ⟨s, h1, h2⟩; exact ⟨s, h1, decide_eq_true h2⟩
theorem total_cnt {r : List Sp} (h : RightL r) {lo : Int} {N : Nat} (hw : ∀ s ∈ r, lo ≤ s.1 ∧ s.2 ≤ lo + N) : total r = cntP (inB r) lo N := by
  induction r with
  | nil =>
    have hz : ∀ M, cntP (inB []) lo M = 0 := fun M => by induction M with | zero => rfl | succ M ih => simp only [cntP, ih]; rfl
    rw [hz]; rfl
  | cons s r ih =>
    have hs := hw s List.mem_cons_self
    have hlt := h.head
    have e : inB (s :: r) = fun x => decide (s.1 ≤ x ∧ x < s.2) || inB r x := by funext x; simp [inB]
    rw [total_cons, ih h.tail (fun t ht => hw t (List.mem_cons_of_mem _ ht)), e, cnt_or]
    · have := cnt_int hs.1 (Int.le_of_lt hlt) hs.2
      rw [Int.natCast_add, this]
    · intro x h1 h2
      have h3 := of_decide_eq_true h1
      have h4 := h.past (inB_iff.1 h2)
      omega
theorem norm_within {l : List Sp} {lo hi : Int} (h : ∀ s ∈ l, lo ≤ s.1 ∧ s.2 ≤ hi) : ∀ u ∈ normL l, lo ≤ u.1 ∧ u.2 ≤ hi := by
  intro u hu
  have h1 := (norm_right l).1 u hu
  obtain ⟨s, hs, h2, h3⟩ := (norm_places l u.1).1 (places_mem hu (Int.le_refl _) h1)
  obtain ⟨t, ht, h4, h5⟩ := (norm_places l (u.2 - 1)).1 (places_mem hu (by omega) (by omega))
  have := h s hs
  have := h t ht
  omega
theorem long_cnt {l : List Sp} {lo : Int} {N : Nat} (h : ∀ s ∈ l, lo ≤ s.1 ∧ s.2 ≤ lo + N) (hN : N ≤ 9007199254740992) : longL l = cntP (inB l) lo N := by
  have h1 : total (normL l) = cntP (inB l) lo N := by
    rw [total_cnt (norm_right l) (norm_within h)]
    congr 1
    exact cnt_congr (fun x _ _ => by rw [Bool.eq_iff_iff, inB_iff, inB_iff, norm_places])
  have h2 : cntP (inB l) lo N ≤ N := by
    have : ∀ M, cntP (inB l) lo M ≤ M := fun M => by
      induction M with
      | zero => exact Nat.le_refl _
      | succ M ih => simp only [cntP]; have := Bool.toNat_le (inB l (lo + M)); omega
    exact this N
  unfold longL
  rw [h1]
  omega

/-! ### with more spans nothing is lost -/
theorem has_more {l m : List Sp} {s : Sp} (h : s ∈ l) : hasL (l ++ m) s = true := (has_iff _ _).2 (fun _ h1 h2 => places_append.2 (.inl (places_mem h h1 h2)))
theorem inB_append (l m : List Sp) (x : Int) : inB (l ++ m) x = (inB l x || inB m x) := by simp [inB]
theorem long_grows {l m : List Sp} {lo : Int} {N : Nat} (hl : ∀ s ∈ l, lo ≤ s.1 ∧ s.2 ≤ lo + N) (hm : ∀ s ∈ m, lo ≤ s.1 ∧ s.2 ≤ lo + N) (hN : N ≤ 9007199254740992) : longL l ≤ longL (l ++ m) ∧ longL (l ++ m) ≤ longL l + longL m ∧ 0 ≤ longL l ∧ longL l ≤ N ∧ 0 ≤ longL m ∧ longL m ≤ N := by
  have hN2 : ∀ p : Int → Bool, cntP p lo N ≤ N := fun p => by
    have : ∀ M, cntP p lo M ≤ M := fun M => by
      induction M with
      | zero => exact Nat.le_refl _
      | succ M ih => simp only [cntP]; have := Bool.toNat_le (p (lo + M)); omega
    exact this N
  rw [long_cnt hl hN, long_cnt hm hN, long_cnt (l := l ++ m) (fun s hs => (List.mem_append.1 hs).elim (hl s) (hm s)) hN, show inB (l ++ m) = fun x => inB l x || inB m x from funext (inB_append l m)]
  have h1 := cnt_or_le (inB l) (inB m) lo N
  have h2 := cnt_le (p := inB l) (q := fun x => inB l x || inB m x) lo N (fun _ h => by simp [h])
  have h3 := hN2 (inB l)
  have h4 := hN2 (inB m)
  omega

/-! ### the holes of holes -/
theorem back_places (l : List Sp) (s : Sp) (x : Int) : places (holesL (holesL l s) s) x ↔ (s.1 ≤ x ∧ x < s.2) ∧ places l x := by
  rw [holes_places, holes_places]
  constructor
  · rintro ⟨h1, h2⟩
    exact ⟨h1, Classical.byContradiction (fun h3 => h2 ⟨h1, h3⟩)⟩
  · rintro ⟨h1, h2⟩
    exact ⟨h1, fun h3 => h3.2 h2⟩
theorem back_has {l : List Sp} {s u : Sp} (h : u ∈ holesL (holesL l s) s) : hasL l u = true := (has_iff _ _).2 (fun x h1 h2 => ((back_places l s x).1 (places_mem h h1 h2)).2)
theorem back_again (l : List Sp) (s : Sp) : holesL (holesL (holesL l s) s) s = holesL l s :=
  right_uniq (holes_right _ _) (holes_right _ _) (fun x => by
    rw [holes_places, back_places, holes_places]
    constructor
    · rintro ⟨h1, h2⟩; exact ⟨h1, fun h3 => h2 ⟨h1, h3⟩⟩
    · rintro ⟨h1, h2⟩; exact ⟨h1, fun h3 => h2 h3.2⟩)
theorem holes_within (l : List Sp) {s : Sp} : ∀ u ∈ holesL l s, s.1 ≤ u.1 ∧ u.2 ≤ s.2 := by
  intro u hu
  have h3 := (holes_right l s).1 u hu
  have h4 := ((holes_places l s u.1).1 (places_mem hu (Int.le_refl _) h3)).1
  have h5 := ((holes_places l s (u.2 - 1)).1 (places_mem hu (by omega) (by omega))).1
  omega
theorem back_long (l : List Sp) {s : Sp} (h1 : 0 ≤ s.1) (h2 : s.1 ≤ 1000) (h3 : 0 ≤ s.2) (h4 : s.2 ≤ 1000) : longL (holesL (holesL l s) s) + longL (holesL l s) = max (s.2 - s.1) 0 := by
  obtain ⟨N, hN⟩ : ∃ N : Nat, N = 1000 := ⟨_, rfl⟩
  have w1 : ∀ u ∈ holesL (holesL l s) s, (0 : Int) ≤ u.1 ∧ u.2 ≤ 0 + (N : Int) := fun u hu => by have := holes_within (holesL l s) (s := s) u hu; omega
  have w2 : ∀ u ∈ holesL l s, (0 : Int) ≤ u.1 ∧ u.2 ≤ 0 + (N : Int) := fun u hu => by have := holes_within l (s := s) u hu; omega
  rw [long_cnt w1 (by omega), long_cnt w2 (by omega), ← Int.natCast_add, ← cnt_or]
  · by_cases h : s.1 ≤ s.2
    · rw [Int.max_eq_left (by omega), ← cnt_int (lo := 0) (N := N) h1 h (by omega)]
      congr 1
      refine cnt_congr (fun x _ _ => ?_)
      rw [Bool.eq_iff_iff, Bool.or_eq_true, inB_iff, inB_iff, back_places, holes_places, decide_eq_true_eq]
      constructor
      · rintro (h | h)
        · exact h.1
        · exact h.1
      · intro h5
        by_cases h6 : places l x
        · exact .inl ⟨h5, h6⟩
        · exact .inr ⟨h5, h6⟩
    · have : cntP (fun x => inB (holesL (holesL l s) s) x || inB (holesL l s) x) 0 N = cntP (fun x => decide ((0 : Int) ≤ x ∧ x < 0)) 0 N := cnt_congr (fun x _ _ => by
        rw [Bool.eq_iff_iff, Bool.or_eq_true, inB_iff, inB_iff, back_places, holes_places, decide_eq_true_eq]
        constructor
        · rintro (h | h)
          · omega
          · omega
        · intro h; omega)
      rw [this, cnt_int (by omega) (by omega) (by omega)]
      omega
  · intro x h5 h6
    exact ((holes_places l s x).1 (inB_iff.1 h6)).2 ((back_places l s x).1 (inB_iff.1 h5)).2

/-! ### moved -/
def mv (d : Int) (s : Sp) : Sp := (s.1 + d, s.2 + d)
theorem places_mv (d : Int) (l : List Sp) (x : Int) : places (l.map (mv d)) x ↔ places l (x - d) := by
  unfold places
  constructor
  · rintro ⟨s, hs, h1, h2⟩
    obtain ⟨t, ht, rfl⟩ := List.mem_map.1 hs
    exact ⟨t, ht, by simp only [mv] at h1 h2; omega⟩
  · rintro ⟨t, ht, h1⟩
    exact ⟨mv d t, List.mem_map_of_mem ht, by simp only [mv]; omega⟩
theorem right_mv {d : Int} {l : List Sp} (h : RightL l) : RightL (l.map (mv d)) := by
  refine ⟨fun s hs => ?_, ?_⟩
  · obtain ⟨t, ht, rfl⟩ := List.mem_map.1 hs
    have := h.1 t ht
    simp only [mv]; omega
  · rw [List.pairwise_map]
    exact h.2.imp (fun hab => by simp only [mv]; omega)
theorem norm_mv (d : Int) (l : List Sp) : normL (l.map (mv d)) = (normL l).map (mv d) :=
  (norm_eq (right_mv (norm_right l)) (fun x => by rw [places_mv, norm_places, places_mv])).symm
theorem total_mv (d : Int) (l : List Sp) : total (l.map (mv d)) = total l := by
  induction l with
  | nil => rfl
  | cons s l ih => rw [List.map_cons, total_cons, total_cons, ih]; simp only [mv]; omega
theorem long_mv (d : Int) (l : List Sp) : longL (normL (l.map (mv d))) = longL (normL l) := by
  unfold longL
  rw [norm_self (norm_right _), norm_self (norm_right _), norm_mv, total_mv]

/-! ### bits -/
def cntBits (b : List Int) (t : Nat) : Nat := cntP (fun x => bt b x.toNat) 0 t
theorem cntBits_succ (b : List Int) (t : Nat) : cntBits b (t + 1) = cntBits b t + (bt b t).toNat := by simp [cntBits, cntP]
theorem of_within {b : List Int} (h : 8 * b.length ≤ 8000000) : ∀ s ∈ ofL b, (0 : Int) ≤ s.1 ∧ s.2 ≤ 0 + ((8 * b.length : Nat) : Int) := by
  intro s hs
  obtain ⟨h1, h2, _, _⟩ := ofTo_is b (8 * b.length) h
  have h3 := h1.1 s hs
  have h4 := (h2 s.1).1 (places_mem hs (Int.le_refl _) h3)
  have h5 := (h2 (s.2 - 1)).1 (places_mem hs (by omega) (by omega))
  omega
theorem of_long {b : List Int} (h : 8 * b.length ≤ 8000000) : longL (ofL b) = cntBits b (8 * b.length) := by
  rw [long_cnt (of_within h) (by omega)]
  congr 1
  refine cnt_congr (fun x h1 h2 => ?_)
  rw [Bool.eq_iff_iff, inB_iff]
  obtain ⟨_, h3, _, _⟩ := ofTo_is b (8 * b.length) h
  rw [show ofL b = ofTo b (8 * b.length) from rfl, h3]
  constructor
  · exact fun h => h.2.2
  · exact fun h => ⟨h1, by omega, h⟩
theorem of_has {b : List Int} (h : 8 * b.length ≤ 8000000) (n : Nat) : hasL (ofL b) ((n : Int), (n : Int) + 1) = (decide (n < 8 * b.length) && bt b n) := by
  obtain ⟨_, h3, _, _⟩ := ofTo_is b (8 * b.length) h
  rw [Bool.eq_iff_iff, has_one, show ofL b = ofTo b (8 * b.length) from rfl, h3, Bool.and_eq_true, decide_eq_true_eq, Int.toNat_natCast]
  constructor
  · rintro ⟨_, h1, h2⟩; exact ⟨by omega, h2⟩
  · rintro ⟨h1, h2⟩; exact ⟨by omega, by omega, h2⟩

end Go.Proofs.Ytmjgpgibifceeaa
