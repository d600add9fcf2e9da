/-
  Plain facts for layer 4 (span): a span laid behind others which begin no later; what the program's Norm, Holes and Of come to. No program is named here.
-/
import Derived.Test.YtmjgpgibifceeaaSpanNorm
namespace Go.Proofs.Ytmjgpgibifceeaa
open Go.RowKit

/-- the last of spans -/
def lastS (l : List Sp) : Sp := l[l.length - 1]?.getD (0, 0)
def joinL (l : List Sp) (s : Sp) : List Sp :=
  if s.2 ≤ s.1 then l else if 0 < l.length ∧ s.1 ≤ (lastS l).2 then l.set (l.length - 1) ((lastS l).1, max (lastS l).2 s.2) else l ++ [s]
theorem lastS_snoc (l : List Sp) (t : Sp) : lastS (l ++ [t]) = t := by simp [lastS]
theorem set_snoc (l : List Sp) (t u : Sp) : (l ++ [t]).set ((l ++ [t]).length - 1) u = l ++ [u] := by simp
theorem join_snoc (l : List Sp) (t s : Sp) : joinL (l ++ [t]) s = if s.2 ≤ s.1 then l ++ [t] else if s.1 ≤ t.2 then l ++ [(t.1, max t.2 s.2)] else l ++ [t] ++ [s] := by
  unfold joinL
  rw [lastS_snoc, set_snoc]
  simp
theorem join_nil (s : Sp) : joinL [] s = if s.2 ≤ s.1 then [] else [s] := by simp [joinL]
theorem RightL.one {s : Sp} (h : s.1 < s.2) : RightL [s] := RightL.nil.cons h (fun t ht => by simp at ht)
theorem RightL.before {l : List Sp} {t : Sp} (h : RightL (l ++ [t])) : ∀ u ∈ l, u.2 < t.1 := fun u hu => (List.pairwise_append.1 h.2).2.2 u hu t (by simp)
theorem join_right {l : List Sp} {s : Sp} (h : RightL l) (hb : ∀ t ∈ l, t.1 ≤ s.1) : RightL (joinL l s) ∧ (∀ x, places (joinL l s) x ↔ places l x ∨ (s.1 ≤ x ∧ x < s.2)) ∧ ∀ t ∈ joinL l s, t.1 ≤ s.1 := by
  rcases List.eq_nil_or_concat l with rfl | ⟨m, t, rfl⟩
  · rw [join_nil]
    split
    · exact ⟨h, fun x => ⟨.inl, fun h2 => h2.elim id (fun h3 => by omega)⟩, hb⟩
    · exact ⟨RightL.one (by omega), fun x => by rw [places_cons]; constructor <;> rintro (h | h) <;> first | exact .inr h | exact .inl h, fun t ht => by simp at ht; rw [ht]; omega⟩
  · rw [List.concat_eq_append] at h hb ⊢
    have ht := h.right.head
    have hbt := hb t (by simp)
    rw [join_snoc]
    split
    · exact ⟨h, fun x => ⟨.inl, fun h2 => h2.elim id (fun h3 => by omega)⟩, hb⟩
    · split
      · refine ⟨h.left.append (RightL.one (by simp only; omega)) (fun u hu v hv => ?_), fun x => ?_, fun u hu => ?_⟩
        · simp at hv; rw [hv]; exact h.before u hu
        · rw [places_append, places_append, places_cons, places_cons]
          have := places_nil x
          simp only [this, or_false]
          constructor
          · rintro (h3 | h3)
            · exact .inl (.inl h3)
            · by_cases h4 : x < t.2
              · exact .inl (.inr ⟨h3.1, h4⟩)
              · exact .inr (by omega)
          · rintro ((h3 | h3) | h3)
            · exact .inl h3
            · exact .inr (by omega)
            · exact .inr (by omega)
        · rcases List.mem_append.1 hu with hu | hu
          · exact hb u (by simp [hu])
          · simp at hu; rw [hu]; exact hbt
      · refine ⟨h.append (RightL.one (by omega)) (fun u hu v hv => ?_), fun x => ?_, fun u hu => ?_⟩
        · simp at hv; rw [hv]
          rcases List.mem_append.1 hu with hu | hu
          · have := h.before u hu; omega
          · simp at hu; rw [hu]; omega
        · rw [places_append, places_cons]
          have := places_nil x
          simp only [this, or_false]
        · rcases List.mem_append.1 hu with hu | hu
          · exact hb u hu
          · simp at hu; rw [hu]; omega
theorem join_add {l : List Sp} {s : Sp} (h : RightL l) (hb : ∀ t ∈ l, t.1 ≤ s.1) : joinL l s = addL l s :=
  right_uniq (join_right h hb).1 (addL_right h).1 (fun x => by rw [(join_right h hb).2.1, (addL_right h).2])
theorem join_length (l : List Sp) (s : Sp) : (joinL l s).length ≤ l.length + 1 := by
  unfold joinL
  split
  · omega
  · split <;> simp
theorem last_all {l : List Sp} (h : AllS l) : -9223372036854775808 ≤ (lastS l).1 ∧ (lastS l).1 ≤ 9223372036854775807 ∧ -9223372036854775808 ≤ (lastS l).2 ∧ (lastS l).2 ≤ 9223372036854775807 := h.at_ _
theorem join_all {l : List Sp} {s : Sp} (h : AllS l) (hs : -9223372036854775808 ≤ s.1 ∧ s.1 ≤ 9223372036854775807 ∧ -9223372036854775808 ≤ s.2 ∧ s.2 ≤ 9223372036854775807) : AllS (joinL l s) := by
  have hl := last_all h
  unfold joinL
  split
  · exact h
  · split
    · intro t ht
      rcases List.mem_or_eq_of_mem_set ht with ht | rfl
      · exact h t ht
      · simp only; omega
    · intro t ht
      rcases List.mem_append.1 ht with ht | ht
      · exact h t ht
      · simp at ht; rw [ht]; exact hs

/-! ### Norm: what is sorted, joined one by one -/
theorem fold_join {m : List Sp} (hm : m.Pairwise (fun a b => a.1 ≤ b.1)) : ∀ {o : List Sp}, RightL o → (∀ t ∈ o, ∀ u ∈ m, t.1 ≤ u.1) → m.foldl joinL o = m.foldl addL o := by
  induction m with
  | nil => intro o _ _; rfl
  | cons s m ih =>
    intro o ho hb
    have hs : ∀ t ∈ o, t.1 ≤ s.1 := fun t ht => hb t ht s List.mem_cons_self
    obtain ⟨h1, h2⟩ := List.pairwise_cons.1 hm
    rw [List.foldl_cons, List.foldl_cons, ← join_add ho hs]
    exact ih h2 (join_right ho hs).1 (fun t ht u hu => by have := (join_right ho hs).2.2 t ht; have := h1 u hu; omega)
theorem sorted_norm {m : List Sp} (hm : m.Pairwise (fun a b => a.1 ≤ b.1)) : m.foldl joinL [] = normL m := fold_join hm RightL.nil (fun t ht => by simp at ht)
theorem places_perm {l m : List Sp} (h : l.Perm m) (x : Int) : places l x ↔ places m x := by
  unfold places
  constructor
  · rintro ⟨s, hs, hx⟩; exact ⟨s, h.mem_iff.1 hs, hx⟩
  · rintro ⟨s, hs, hx⟩; exact ⟨s, h.mem_iff.2 hs, hx⟩
theorem perm_norm {l m : List Sp} (h : l.Perm m) : normL l = normL m := norm_same (places_perm h)
theorem AllS.perm {l m : List Sp} (h : AllS l) (hp : l.Perm m) : AllS m := fun s hs => h s (hp.mem_iff.2 hs)

/-! ### Holes -/
def hGo : List Sp → List Sp → Int → Int → List Sp
  | [], h, f, to => joinL h (f, to)
  | t :: n, h, f, to => hGo n (joinL h (f, min t.1 to)) (max f t.2) to
theorem hGo_right {n : List Sp} (hn : RightL n) : ∀ {h : List Sp} {f to : Int}, RightL h → (∀ t ∈ h, t.1 ≤ f) → RightL (hGo n h f to) ∧ ∀ x, places (hGo n h f to) x ↔ places h x ∨ ((f ≤ x ∧ x < to) ∧ ¬ places n x) := by
  induction n with
  | nil =>
    intro h f to hh hb
    rw [hGo]
    obtain ⟨a, b, c⟩ := join_right (s := (f, to)) hh hb
    refine ⟨a, fun x => ?_⟩
    rw [b]
    have := places_nil x
    simp only [this, not_false_eq_true, and_true]
  | cons t n ih =>
    intro h f to hh hb
    rw [hGo]
    obtain ⟨a, b, c⟩ := join_right (s := (f, min t.1 to)) hh hb
    have ht := hn.head
    obtain ⟨i1, i2⟩ := ih hn.tail (h := joinL h (f, min t.1 to)) (f := max f t.2) (to := to) a (fun u hu => by have := c u hu; simp only at this; omega)
    refine ⟨i1, fun x => ?_⟩
    rw [i2, b, places_cons]
    simp only
    constructor
    · rintro ((h3 | h3) | ⟨h3, h4⟩)
      · exact .inl h3
      · refine .inr ⟨by omega, ?_⟩
        rintro (h5 | h5)
        · omega
        · have := hn.past h5; omega
      · refine .inr ⟨by omega, ?_⟩
        rintro (h5 | h5)
        · omega
        · exact h4 h5
    · rintro (h3 | ⟨h3, h4⟩)
      · exact .inl (.inl h3)
      · by_cases h5 : x < t.1
        · exact .inl (.inr (by omega))
        · refine .inr ⟨?_, fun h6 => h4 (.inr h6)⟩
          have : ¬ x < t.2 := fun h6 => h4 (.inl (by omega))
          omega
theorem hGo_is (l : List Sp) (s : Sp) : hGo (normL l) [] s.1 s.2 = holesL l s := by
  obtain ⟨a, b⟩ := hGo_right (norm_right l) (h := []) (f := s.1) (to := s.2) RightL.nil (fun t ht => by simp at ht)
  refine right_uniq a (holes_right l s) (fun x => ?_)
  rw [b, holes_places, norm_places]
  have := places_nil x
  simp only [this, false_or]

end Go.Proofs.Ytmjgpgibifceeaa
