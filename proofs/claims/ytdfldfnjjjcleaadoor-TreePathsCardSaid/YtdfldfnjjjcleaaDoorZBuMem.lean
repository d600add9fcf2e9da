/-
  Layer 8: the builder in memory: its box, its row of segments, each segment's row of words.
-/
import Derived.Test.YtdfldfnjjjcleaaDoorZPlain
import Derived.Test.YtdfldfnjjjcleaaDoorZSeq
import Derived.Test.YtdfldfnjjjcleaaDoorZCut

namespace Go.Proofs.YtdfldfnjjjcleaaDoor
open Go.RowKit Go.Deep

theorem getD_set {α : Type} {l : List α} {i j : Nat} {x d : α} (h : i < l.length) : (l.set i x)[j]?.getD d = if i = j then x else l[j]?.getD d := by
  rw [List.getElem?_set]
  split
  · rename_i e
    subst e
    rfl
  · rfl

/-- a store into a row of the call's own -/
theorem own_setV {w : World} {base e n g i cap : Nat} {xs : List Value} (h : w.ownsRow base e 1 (.slice (some ⟨g, 0, none⟩) n cap) n xs) (u : Value) : (w.setCell ⟨g, i, none⟩ u).ownsRow base e 1 (.slice (some ⟨g, 0, none⟩) n cap) n (xs.set i u) := by
  obtain ⟨h1, ⟨e0, _⟩ | ⟨g', c, cur, e0, hb, hh, hc, hm, hs, ht⟩⟩ := h
  · cases e0
  · injection e0 with e1 e2 e3
    injection e1 with e1
    injection e1 with e1 _ _
    subst e1 e3
    refine ⟨by rw [List.length_set]; exact h1, .inr ⟨g, cap, cur.setIfInBounds i u, rfl, hb, ?_, hc, hm, by rw [Array.size_setIfInBounds]; exact hs, ?_⟩⟩
    · simp [World.setCell, Array.getElem?_modify, hh]
    · rw [← ht, Array.toList_setIfInBounds, List.take_set]
theorem own_frozen {w : World} {base e n g i cap : Nat} {xs : List Value} (h : w.ownsRow base e 1 (.slice (some ⟨g, 0, none⟩) n cap) n xs) : w.frozen? ⟨g, i, none⟩ = false := by
  obtain ⟨cur, hh, _⟩ := own_cells h rfl
  simp [World.frozen?, hh]
theorem own_cell {w : World} {base e n g i cap : Nat} {xs : List Value} (h : w.ownsRow base e 1 (.slice (some ⟨g, 0, none⟩) n cap) n xs) (hi : i < n) : w.cell? ⟨g, i, none⟩ = some (xs[i]?.getD undef) := by
  have h1 := h.1
  have := World.ownsRow.cellAt h i (by omega)
  rw [this, List.getElem?_eq_getElem (by omega)]
  rfl
/-- a row that has something is written out -/
theorem OwnU.out {w : World} {base : Nat} {v : Value} {xs : List Int} (h : OwnU w base v xs) (hp : 0 < xs.length) : ∃ g cap, v = .slice (some ⟨g, 0, none⟩) xs.length cap ∧ base ≤ g ∧ g < w.heap.size := by
  have h0 := h
  obtain ⟨_, ⟨_, hn⟩ | ⟨g, cap, cur, rfl, hb, _⟩⟩ := h
  · omega
  · exact ⟨g, cap, rfl, hb, (World.ownsRow.lt h0 g rfl).2⟩
theorem OwnU.set {w : World} {base g i n cap : Nat} {xs : List Int} (h : OwnU w base (.slice (some ⟨g, 0, none⟩) n cap) xs) (hn : n = xs.length) (x : Int) : OwnU (w.setCell ⟨g, i, none⟩ (.int .u64 x)) base (.slice (some ⟨g, 0, none⟩) n cap) (xs.set i x) := by
  subst hn
  have := own_setV (i := i) h (.int .u64 x)
  unfold OwnU OwnN
  rw [List.length_set, List.map_set]
  exact this

end Go.Proofs.YtdfldfnjjjcleaaDoor
