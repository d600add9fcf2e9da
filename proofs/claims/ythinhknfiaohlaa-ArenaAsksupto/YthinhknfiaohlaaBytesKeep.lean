/-
  How rows of the call's own last while calls only make memory; a row of the call's own that is not empty, as a block that is known whole.
-/
import Derived.Test.YthinhknfiaohlaaWordFacts
import Derived.Deep.OwnRows
namespace Go.Proofs.Ythinhknfiaohlaa
open Go.RowKit Go.Deep

theorem own_base {w : World} {base base' e n : Nat} {v : Value} {xs : List Value} (h : w.ownsRow base e 1 v n xs) (hb : base' ≤ base) : w.ownsRow base' e 1 v n xs := by
  obtain ⟨h1, h2 | ⟨g, c, cur, e, hg, r⟩⟩ := h
  · exact ⟨h1, .inl h2⟩
  · exact ⟨h1, .inr ⟨g, c, cur, e, by omega, r⟩⟩

/-- a row of the call's own lasts while calls only make memory -/
theorem own_on {w w' : World} {base e n : Nat} {v : Value} {xs : List Value} (h : w.ownsRow base e 1 v n xs) (hB : Below w.heap.size w w') : w'.ownsRow base e 1 v n xs := by
  obtain ⟨h1, h2 | ⟨g, c, cur, e, hg, hh, r⟩⟩ := h
  · exact ⟨h1, .inl h2⟩
  · refine ⟨h1, .inr ⟨g, c, cur, e, hg, ?_, r⟩⟩
    rw [hB.block g ?_]
    · exact hh
    · rcases Nat.lt_or_ge g w.heap.size with hlt | hge
      · exact hlt
      · rw [Array.getElem?_eq_none hge] at hh; cases hh

/-- a row of the call's own that is not empty, as a block that is known whole -/
theorem own_block {w : World} {base n : Nat} {v : Value} {l : List Int} (h : w.ownsRow base 5 1 v n (l.map (Value.int .u8))) (hn : 0 < n) :
    ∃ g cap f, v = .slice (some ⟨g, 0, none⟩) n cap ∧ base ≤ g ∧ n ≤ cap ∧ cap ≤ 9223372036854775807 ∧ w.rowIs g 5 cap f ∧ ∀ i, i < n → f i = .int .u8 (l[i]?.getD 0) := by
  obtain ⟨h1, ⟨_, h0⟩ | ⟨g, cap, cur, rfl, hb, hh, hc, hm, hs, ht⟩⟩ := h
  · omega
  · rw [Nat.mul_one] at h1 hs ht
    refine ⟨g, cap, fun i => cur[i]?.getD undef, rfl, hb, hc, by unfold maxLen at hm; omega, ⟨cur, hh, hs, fun i hi => ?_⟩, fun i hi => ?_⟩
    · show cur[i]? = some (cur[i]?.getD undef)
      rw [Array.getElem?_eq_getElem (by omega)]; rfl
    · have e : (cur.toList.take n)[i]? = cur[i]? := by rw [List.getElem?_take_of_lt hi]; simp
      rw [ht, List.getElem?_map] at e
      show cur[i]?.getD undef = _
      rw [← e]
      rw [List.length_map] at h1
      rw [List.getElem?_eq_getElem (by omega)]
      rfl
theorem row_Bytes {w : World} {g n cap : Nat} {f : Nat → Value} {l : List Int} (h : w.rowIs g 5 cap f) (hc : n ≤ cap) (hm : cap ≤ 9223372036854775807) (hl : l.length = n) (hf : ∀ i, i < n → f i = .int .u8 (l[i]?.getD 0)) : Bytes w w.heap.size (.slice (some ⟨g, 0, none⟩) n cap) l := by
  subst hl
  refine ⟨_, cap, rfl, hc, hm, fun hp => ⟨g, 0, rfl, h.lt, fun j hj => ?_⟩⟩
  rw [Nat.zero_add, h.cell (by omega), hf j hj]

end Go.Proofs.Ythinhknfiaohlaa
