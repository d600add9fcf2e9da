/-
  Slices of numbers in memory, of any kind; rows of numbers of the call's own. No program is named here.
-/
import Derived.Test.YthinhknfiaohlaaRows
import Derived.WalkKit
import Derived.Below
import Derived.OwnWalk
import Derived.Laws.OwnMore
import Derived.Lib.Hide
namespace Go.Proofs.Ythinhknfiaohlaa
open Go.RowKit

def In64 (x : Int) : Prop := -9223372036854775808 ≤ x ∧ x ≤ 9223372036854775807
/-- the slice value v has the numbers l, in memory below block B -/
def NumS (q : IntKind) (w : World) (B : Nat) (v : Value) (l : List Int) : Prop :=
  ∃ A c, v = .slice A l.length c ∧ l.length ≤ c ∧ c ≤ 9223372036854775807 ∧ (0 < l.length → ∃ b off, A = some ⟨b, off, none⟩ ∧ b < B ∧ ∀ j, j < l.length → w.cell? ⟨b, off + j, none⟩ = some (.int q (l[j]?.getD 0)))
theorem NumS.below {q : IntKind} {w w' : World} {B B' : Nat} {v : Value} {l : List Int} (h : NumS q w B v l) (hb : Below B' w w') (hB : B ≤ B') : NumS q w' B v l := by
  obtain ⟨A, c, e, hc, hm, hr⟩ := h
  refine ⟨A, c, e, hc, hm, fun hl => ?_⟩
  obtain ⟨b, off, ea, hlt, hcell⟩ := hr hl
  exact ⟨b, off, ea, hlt, fun j hj => (hb.cell (p := ⟨b, off + j, none⟩) (by show b < B'; omega)).trans (hcell j hj)⟩
theorem NumS.more {q : IntKind} {w : World} {B B' : Nat} {v : Value} {l : List Int} (h : NumS q w B v l) (hB : B ≤ B') : NumS q w B' v l := by
  obtain ⟨A, c, e, hc, hm, hr⟩ := h
  refine ⟨A, c, e, hc, hm, fun hl => ?_⟩
  obtain ⟨b, off, ea, hlt, hcell⟩ := hr hl
  exact ⟨b, off, ea, by omega, hcell⟩
theorem NumS.on {q : IntKind} {a b : World} {v : Value} {l : List Int} (h : NumS q a a.heap.size v l) (k : Below a.heap.size a b) : NumS q b b.heap.size v l := (h.below k (Nat.le_refl _)).more k.size
theorem NumS.form {q : IntKind} {a : World} {B m : Nat} {v : Value} {l : List Int} (h : NumS q a B v l) (hm : l.length = m) : ∃ A c, v = .slice A m c := by
  obtain ⟨A, c, e, _⟩ := h
  exact ⟨A, c, by rw [e, hm]⟩
theorem NumS.nil (q : IntKind) (w : World) (B : Nat) : NumS q w B (.slice none 0 0) [] := ⟨none, 0, rfl, by simp, by omega, fun h => by simp at h⟩
/-- v is a row of numbers of the call's own, from block 'base' on -/
def OwnN (q : IntKind) (t : Nat) (w : World) (base : Nat) (v : Value) (xs : List Int) : Prop := w.ownsRow base t 1 v xs.length (xs.map (Value.int q))
theorem OwnN.numS {q : IntKind} {t : Nat} {w : World} {base : Nat} {v : Value} {l : List Int} (h : OwnN q t w base v l) : NumS q w w.heap.size v l := by
  have h0 := h
  obtain ⟨h1, ⟨rfl, hn⟩ | ⟨g, cap, cur, rfl, hb, hh, hc, hm, hs, ht⟩⟩ := h
  · exact ⟨none, 0, by rw [hn], by omega, by omega, fun hp => by omega⟩
  · refine ⟨_, cap, rfl, hc, by unfold maxLen at hm; omega, fun hp => ⟨g, 0, rfl, (World.ownsRow.lt h0 g rfl).2, fun j hj => ?_⟩⟩
    rw [Nat.zero_add, World.ownsRow.cellAt h0 j (by omega), List.getElem?_map, List.getElem?_eq_getElem hj]
    rfl
def All64 (l : List Int) : Prop := ∀ x ∈ l, In64 x
theorem All64.at_ {l : List Int} (h : All64 l) (j : Nat) : In64 (l[j]?.getD 0) := by
  by_cases hj : j < l.length
  · rw [List.getElem?_eq_getElem hj]; exact h _ (List.getElem_mem hj)
  · rw [List.getElem?_eq_none (by omega)]; exact ⟨by decide, by decide⟩

end Go.Proofs.Ythinhknfiaohlaa
