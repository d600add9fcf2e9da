/-
  Plain facts for layer 4 (span): spans as pairs of numbers, their places, spans that are right, what Norm, Holes, Has and Long come to. No program is named here.
-/
import Derived.WalkKit
import Derived.Test.YtmmlfnblodfjbaaGreatDoorZWord

namespace Go.Proofs.YtmmlfnblodfjbaaGreatDoor
open Go.RowKit

abbrev Sp := Int × Int
/-- the places of spans -/
def places (l : List Sp) (x : Int) : Prop := ∃ s ∈ l, s.1 ≤ x ∧ x < s.2
/-- spans that are right: each has places, and begins each but the first above the end of the one ahead -/
def RightL (l : List Sp) : Prop := (∀ s ∈ l, s.1 < s.2) ∧ l.Pairwise (fun a b => a.2 < b.1)

theorem places_nil (x : Int) : ¬ places [] x := fun ⟨s, h, _⟩ => by simp at h
theorem places_cons {s : Sp} {l : List Sp} {x : Int} : places (s :: l) x ↔ (s.1 ≤ x ∧ x < s.2) ∨ places l x := by
  unfold places
  constructor
  · rintro ⟨t, ht, h⟩
    rcases List.mem_cons.1 ht with rfl | ht
    · exact .inl h
    · exact .inr ⟨t, ht, h⟩
  · rintro (h | ⟨t, ht, h⟩)
    · exact ⟨s, List.mem_cons_self, h⟩
    · exact ⟨t, List.mem_cons_of_mem _ ht, h⟩
theorem places_append {l m : List Sp} {x : Int} : places (l ++ m) x ↔ places l x ∨ places m x := by
  induction l with
  | nil => simp [places_nil]
  | cons s l ih => rw [List.cons_append, places_cons, ih, places_cons]; exact or_assoc.symm
theorem RightL.nil : RightL [] := ⟨fun s h => by simp at h, List.Pairwise.nil⟩
theorem RightL.tail {s : Sp} {l : List Sp} (h : RightL (s :: l)) : RightL l := ⟨fun t ht => h.1 t (List.mem_cons_of_mem _ ht), (List.pairwise_cons.1 h.2).2⟩
theorem RightL.head {s : Sp} {l : List Sp} (h : RightL (s :: l)) : s.1 < s.2 := h.1 s List.mem_cons_self
theorem RightL.above {s : Sp} {l : List Sp} (h : RightL (s :: l)) {t : Sp} (ht : t ∈ l) : s.2 < t.1 := (List.pairwise_cons.1 h.2).1 t ht
theorem RightL.cons {s : Sp} {l : List Sp} (h : RightL l) (hs : s.1 < s.2) (ha : ∀ t ∈ l, s.2 < t.1) : RightL (s :: l) :=
  ⟨fun t ht => (List.mem_cons.1 ht).elim (fun e => by rw [e]; exact hs) (h.1 t), List.pairwise_cons.2 ⟨ha, h.2⟩⟩
theorem RightL.append {l m : List Sp} (hl : RightL l) (hm : RightL m) (h : ∀ s ∈ l, ∀ t ∈ m, s.2 < t.1) : RightL (l ++ m) :=
  ⟨fun s hs => (List.mem_append.1 hs).elim (hl.1 s) (hm.1 s), List.pairwise_append.2 ⟨hl.2, hm.2, h⟩⟩
theorem RightL.left {l m : List Sp} (h : RightL (l ++ m)) : RightL l := ⟨fun s hs => h.1 s (List.mem_append_left _ hs), (List.pairwise_append.1 h.2).1⟩
theorem RightL.right {l m : List Sp} (h : RightL (l ++ m)) : RightL m := ⟨fun s hs => h.1 s (List.mem_append_right _ hs), (List.pairwise_append.1 h.2).2.1⟩
theorem RightL.past {s : Sp} {l : List Sp} (h : RightL (s :: l)) {x : Int} (hp : places l x) : s.2 < x := by
  obtain ⟨t, ht, h1, _⟩ := hp
  have := h.above ht
  omega

/-- the same places: the same spans -/
theorem right_uniq {a b : List Sp} (ha : RightL a) (hb : RightL b) (h : ∀ x, places a x ↔ places b x) : a = b := by
  induction a generalizing b with
  | nil =>
    cases b with
    | nil => rfl
    | cons t b =>
      exfalso
      have ht := hb.head
      exact places_nil t.1 ((h t.1).2 (places_cons.2 (.inl ⟨by omega, ht⟩)))
  | cons s a ih =>
    cases b with
    | nil =>
      exfalso
      have hs := ha.head
      exact places_nil s.1 ((h s.1).1 (places_cons.2 (.inl ⟨by omega, hs⟩)))
    | cons t b =>
      have hs := ha.head
      have ht := hb.head
      -- the first place
      have e1 : s.1 = t.1 := by
        have h1 := (h s.1).1 (places_cons.2 (.inl ⟨by omega, hs⟩))
        have h2 := (h t.1).2 (places_cons.2 (.inl ⟨by omega, ht⟩))
        rcases places_cons.1 h1 with h1 | h1
        · rcases places_cons.1 h2 with h2 | h2
          · omega
          · have := ha.past h2; omega
        · have := hb.past h1
          rcases places_cons.1 h2 with h2 | h2
          · omega
          · have := ha.past h2; omega
      -- the first place that is none
      have e2 : s.2 = t.2 := by
        rcases Int.lt_trichotomy s.2 t.2 with h3 | h3 | h3
        · exfalso
          have h4 := (h s.2).2 (places_cons.2 (.inl ⟨by omega, h3⟩))
          rcases places_cons.1 h4 with h4 | h4
          · omega
          · have := ha.past h4; omega
        · exact h3
        · exfalso
          have h4 := (h t.2).1 (places_cons.2 (.inl ⟨by omega, h3⟩))
          rcases places_cons.1 h4 with h4 | h4
          · omega
          · have := hb.past h4; omega
      have e : s = t := Prod.ext e1 e2
      subst e
      congr 1
      refine ih ha.tail hb.tail (fun x => ?_)
      have hx := h x
      rw [places_cons, places_cons] at hx
      constructor
      · intro hp
        have := ha.past hp
        rcases hx.1 (.inr hp) with h5 | h5
        · omega
        · exact h5
      · intro hp
        have := hb.past hp
        rcases hx.2 (.inr hp) with h5 | h5
        · omega
        · exact h5

/-! ### one more span -/
/-- what comes of the rest of right spans and one more, which has places -/
def addGo : List Sp → Sp → List Sp
  | [], s => [s]
  | t :: l, s => if t.2 < s.1 then t :: addGo l s else if s.2 < t.1 then s :: t :: l else addGo l (min s.1 t.1, max s.2 t.2)
def addL (l : List Sp) (s : Sp) : List Sp := if s.2 ≤ s.1 then l else addGo l s
theorem addGo_above {l : List Sp} {s : Sp} {y : Int} (hs : y < s.1) (hl : ∀ t ∈ l, y < t.1) : ∀ t ∈ addGo l s, y < t.1 := by
  induction l generalizing s with
  | nil => intro t ht; rw [addGo, List.mem_singleton] at ht; rw [ht]; exact hs
  | cons u l ih =>
    intro t ht
    rw [addGo] at ht
    have hu := hl u List.mem_cons_self
    split at ht
    · rcases List.mem_cons.1 ht with rfl | ht
      · exact hu
      · exact ih hs (fun t ht => hl t (List.mem_cons_of_mem _ ht)) t ht
    · split at ht
      · rcases List.mem_cons.1 ht with rfl | ht
        · exact hs
        · exact hl t ht
      · exact ih (s := (min s.1 u.1, max s.2 u.2)) (by simp only; omega) (fun t ht => hl t (List.mem_cons_of_mem _ ht)) t ht
theorem addGo_right {l : List Sp} {s : Sp} (h : RightL l) (hs : s.1 < s.2) : RightL (addGo l s) ∧ ∀ x, places (addGo l s) x ↔ places l x ∨ (s.1 ≤ x ∧ x < s.2) := by
  induction l generalizing s with
  | nil =>
    rw [addGo]
    exact ⟨RightL.nil.cons hs (fun t ht => by simp at ht), fun x => by rw [places_cons]; constructor <;> rintro (h | h) <;> first | exact .inr h | exact .inl h⟩
  | cons t l ih =>
    rw [addGo]
    have ht := h.head
    split
    · rename_i h1
      obtain ⟨i1, i2⟩ := ih h.tail hs
      refine ⟨i1.cons ht (fun u hu => addGo_above h1 (fun v hv => h.above hv) u hu), fun x => ?_⟩
      rw [places_cons, i2, places_cons]
      exact or_assoc.symm
    · rename_i h1
      split
      · rename_i h2
        refine ⟨h.cons hs (fun u hu => ?_), fun x => ?_⟩
        · rcases List.mem_cons.1 hu with rfl | hu
          · exact h2
          · have := h.above hu; omega
        · rw [places_cons]
          exact or_comm
      · rename_i h2
        obtain ⟨i1, i2⟩ := ih (s := (min s.1 t.1, max s.2 t.2)) h.tail (by simp only; omega)
        refine ⟨i1, fun x => ?_⟩
        rw [i2, places_cons]
        simp only
        constructor
        · rintro (h3 | h3)
          · exact .inl (.inr h3)
          · by_cases h4 : t.1 ≤ x ∧ x < t.2
            · exact .inl (.inl h4)
            · exact .inr (by omega)
        · rintro ((h3 | h3) | h3)
          · exact .inr (by omega)
          · exact .inl h3
          · exact .inr (by omega)
theorem addL_right {l : List Sp} {s : Sp} (h : RightL l) : RightL (addL l s) ∧ ∀ x, places (addL l s) x ↔ places l x ∨ (s.1 ≤ x ∧ x < s.2) := by
  unfold addL
  split
  · exact ⟨h, fun x => ⟨.inl, fun h2 => h2.elim id (fun h3 => by omega)⟩⟩
  · exact addGo_right h (by omega)

/-! ### Norm -/
def normL (l : List Sp) : List Sp := l.foldl addL []
theorem fold_right {m : List Sp} (hm : RightL m) (l : List Sp) : RightL (l.foldl addL m) ∧ ∀ x, places (l.foldl addL m) x ↔ places m x ∨ places l x := by
  induction l generalizing m with
  | nil => exact ⟨hm, fun x => ⟨.inl, fun h => h.elim id (fun h => (places_nil x h).elim)⟩⟩
  | cons s l ih =>
    obtain ⟨a1, a2⟩ := addL_right (s := s) hm
    obtain ⟨i1, i2⟩ := ih a1
    refine ⟨i1, fun x => ?_⟩
    rw [List.foldl_cons, i2, a2, places_cons]
    exact or_assoc
theorem norm_right (l : List Sp) : RightL (normL l) := (fold_right RightL.nil l).1
theorem norm_places (l : List Sp) (x : Int) : places (normL l) x ↔ places l x := by
  rw [show normL l = l.foldl addL [] from rfl, (fold_right RightL.nil l).2]
  exact ⟨fun h => h.elim (fun h => (places_nil x h).elim) id, .inr⟩
/-- the same places have the same spans -/
theorem norm_eq {l m : List Sp} (hm : RightL m) (h : ∀ x, places m x ↔ places l x) : m = normL l :=
  right_uniq hm (norm_right l) (fun x => by rw [norm_places]; exact h x)
theorem norm_same {l m : List Sp} (h : ∀ x, places l x ↔ places m x) : normL l = normL m :=
  norm_eq (norm_right l) (fun x => by rw [norm_places]; exact h x)
/-! ### Holes, Has -/
end Go.Proofs.YtmmlfnblodfjbaaGreatDoor

namespace Go.Proofs.YtmmlfnblodfjbaaGreatDoor
open Go.RowKit Go.Deep

/-- all numbers are int's -/
def AllS (l : List Sp) : Prop := ∀ s ∈ l, -9223372036854775808 ≤ s.1 ∧ s.1 ≤ 9223372036854775807 ∧ -9223372036854775808 ≤ s.2 ∧ s.2 ≤ 9223372036854775807
theorem AllS.at_ {l : List Sp} (h : AllS l) (j : Nat) : -9223372036854775808 ≤ (l[j]?.getD (0, 0)).1 ∧ (l[j]?.getD (0, 0)).1 ≤ 9223372036854775807 ∧ -9223372036854775808 ≤ (l[j]?.getD (0, 0)).2 ∧ (l[j]?.getD (0, 0)).2 ≤ 9223372036854775807 := by
  by_cases hj : j < l.length
  · rw [List.getElem?_eq_getElem hj]; exact h _ (List.getElem_mem hj)
  · rw [List.getElem?_eq_none (by omega)]; exact ⟨by decide, by decide, by decide, by decide⟩

/-- the slice value v has the spans l, in memory below block B -/
def Spans (w : World) (B : Nat) (v : Value) (l : List Sp) : Prop :=
  ∃ A c, v = .slice A l.length c ∧ l.length ≤ c ∧ c ≤ 9223372036854775807 ∧ (0 < l.length → ∃ b off, A = some ⟨b, off, none⟩ ∧ b < B ∧ ∀ j, j < l.length → w.cell? ⟨b, off + j * 2, none⟩ = some (.int .i64 (l[j]?.getD (0, 0)).1) ∧ w.cell? ⟨b, off + j * 2 + 1, none⟩ = some (.int .i64 (l[j]?.getD (0, 0)).2))
theorem Spans.below {w w' : World} {B B' : Nat} {v : Value} {l : List Sp} (h : Spans w B v l) (hb : Below B' w w') (hB : B ≤ B') : Spans w' B v l := by
  obtain ⟨A, c, e, hc, hm, hr⟩ := h
  refine ⟨A, c, e, hc, hm, fun hl => ?_⟩
  obtain ⟨b, off, ea, hlt, hcell⟩ := hr hl
  exact ⟨b, off, ea, hlt, fun j hj => ⟨(hb.cell (p := ⟨b, off + j * 2, none⟩) (by show b < B'; omega)).trans (hcell j hj).1, (hb.cell (p := ⟨b, off + j * 2 + 1, none⟩) (by show b < B'; omega)).trans (hcell j hj).2⟩⟩
theorem Spans.more {w : World} {B B' : Nat} {v : Value} {l : List Sp} (h : Spans w B v l) (hB : B ≤ B') : Spans w B' v l := by
  obtain ⟨A, c, e, hc, hm, hr⟩ := h
  refine ⟨A, c, e, hc, hm, fun hl => ?_⟩
  obtain ⟨b, off, ea, hlt, hcell⟩ := hr hl
  exact ⟨b, off, ea, by omega, hcell⟩
theorem Spans.on {a b : World} {v : Value} {l : List Sp} (h : Spans a a.heap.size v l) (k : Below a.heap.size a b) : Spans b b.heap.size v l := (h.below k (Nat.le_refl _)).more k.size
theorem Spans.form {a : World} {B m : Nat} {v : Value} {l : List Sp} (h : Spans a B v l) (hm : l.length = m) : ∃ A c, v = .slice A m c := by
  obtain ⟨A, c, e, _⟩ := h
  exact ⟨A, c, by rw [e, hm]⟩
theorem Spans.parts {w : World} {B : Nat} {v : Value} {l : List Sp} (h : Spans w B v l) : ∃ A c, v = .slice A l.length c ∧ l.length ≤ c ∧ c ≤ 9223372036854775807 ∧ (0 < l.length → ∃ b off, A = some ⟨b, off, none⟩ ∧ ∀ j, j < l.length → w.cell? ⟨b, off + j * 2, none⟩ = some (.int .i64 (l[j]?.getD (0, 0)).1) ∧ w.cell? ⟨b, off + j * 2 + 1, none⟩ = some (.int .i64 (l[j]?.getD (0, 0)).2)) := by
  obtain ⟨A, c, e, hc, hm, hr⟩ := h
  refine ⟨A, c, e, hc, hm, fun hp => ?_⟩
  obtain ⟨b, off, e, _, hcell⟩ := hr hp
  exact ⟨b, off, e, hcell⟩
theorem nil_spans (w : World) (B : Nat) : Spans w B (.slice none 0 0) [] := ⟨none, 0, rfl, by simp, by omega, fun h => by simp at h⟩

end Go.Proofs.YtmmlfnblodfjbaaGreatDoor
