/-
  Slices of spans in memory: a slice value that reads as a list of pairs.
-/
import Derived.Test.YtlhfgiffdfcplaaWordFacts
import Derived.Test.YtlhfgiffdfcplaaSpanMath
namespace Go.Proofs.Ytlhfgiffdfcplaa
open Go.RowKit Go.Deep

/-- all numbers are int's -/
def AllS (l : List Sp) : Prop := ∀ s ∈ l, -9223372036854775808 ≤ s.1 ∧ s.1 ≤ 9223372036854775807 ∧ -9223372036854775808 ≤ s.2 ∧ s.2 ≤ 9223372036854775807
theorem AllS.at_ {l : List Sp} (h : AllS l) (j : Nat) : -9223372036854775808 ≤ (l[j]?.getD (0, 0)).1 ∧ (l[j]?.getD (0, 0)).1 ≤ 9223372036854775807 ∧ -9223372036854775808 ≤ (l[j]?.getD (0, 0)).2 ∧ (l[j]?.getD (0, 0)).2 ≤ 9223372036854775807 := by
  by_cases hj : j < l.length
  · rw [List.getElem?_eq_getElem hj]; exact h _ (List.getElem_mem hj)
  · rw [List.getElem?_eq_none (by omega)]; exact ⟨by decide, by decide, by decide, by decide⟩

/-- the slice value v has the spans l, in memory below block B -/
def Spans (w : World) (B : Nat) (v : Value) (l : List Sp) : Prop :=
  ∃ A c, v = .slice A l.length c ∧ l.length ≤ c ∧ c ≤ 9223372036854775807 ∧ (0 < l.length → ∃ b off, A = some ⟨b, off, none⟩ ∧ b < B ∧ ∀ j, j < l.length → w.cell? ⟨b, off + j * 2, none⟩ = some (.int .i64 (l[j]?.getD (0, 0)).1) ∧ w.cell? ⟨b, off + j * 2 + 1, none⟩ = some (.int .i64 (l[j]?.getD (0, 0)).2))
theorem Spans.below {w w' : World} {B B' : Nat} {v : Value} {l : List Sp} (h : Spans w B v l) (hb : Below B' w w') (hB : B ≤ B') : Spans w' B v l := by
  obtain ⟨A, c, e, hc, hm, hr⟩ := h
  refine ⟨A, c, e, hc, hm, fun hl => ?_⟩
  obtain ⟨b, off, ea, hlt, hcell⟩ := hr hl
  exact ⟨b, off, ea, hlt, fun j hj => ⟨(hb.cell (p := ⟨b, off + j * 2, none⟩) (by show b < B'; omega)).trans (hcell j hj).1, (hb.cell (p := ⟨b, off + j * 2 + 1, none⟩) (by show b < B'; omega)).trans (hcell j hj).2⟩⟩
theorem Spans.more {w : World} {B B' : Nat} {v : Value} {l : List Sp} (h : Spans w B v l) (hB : B ≤ B') : Spans w B' v l := by
  obtain ⟨A, c, e, hc, hm, hr⟩ := h
  refine ⟨A, c, e, hc, hm, fun hl => ?_⟩
  obtain ⟨b, off, ea, hlt, hcell⟩ := hr hl
  exact ⟨b, off, ea, by omega, hcell⟩
theorem Spans.on {a b : World} {v : Value} {l : List Sp} (h : Spans a a.heap.size v l) (k : Below a.heap.size a b) : Spans b b.heap.size v l := (h.below k (Nat.le_refl _)).more k.size
theorem Spans.form {a : World} {B m : Nat} {v : Value} {l : List Sp} (h : Spans a B v l) (hm : l.length = m) : ∃ A c, v = .slice A m c := by
  obtain ⟨A, c, e, _⟩ := h
  exact ⟨A, c, by rw [e, hm]⟩
theorem Spans.parts {w : World} {B : Nat} {v : Value} {l : List Sp} (h : Spans w B v l) : ∃ A c, v = .slice A l.length c ∧ l.length ≤ c ∧ c ≤ 9223372036854775807 ∧ (0 < l.length → ∃ b off, A = some ⟨b, off, none⟩ ∧ ∀ j, j < l.length → w.cell? ⟨b, off + j * 2, none⟩ = some (.int .i64 (l[j]?.getD (0, 0)).1) ∧ w.cell? ⟨b, off + j * 2 + 1, none⟩ = some (.int .i64 (l[j]?.getD (0, 0)).2)) := by
  obtain ⟨A, c, e, hc, hm, hr⟩ := h
  refine ⟨A, c, e, hc, hm, fun hp => ?_⟩
  obtain ⟨b, off, e, _, hcell⟩ := hr hp
  exact ⟨b, off, e, hcell⟩
theorem nil_spans (w : World) (B : Nat) : Spans w B (.slice none 0 0) [] := ⟨none, 0, rfl, by simp, by omega, fun h => by simp at h⟩

end Go.Proofs.Ytlhfgiffdfcplaa
