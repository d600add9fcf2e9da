/-
  A slice of bytes that came in, as a row of bytes.
-/
import Derived.Test.YthinhknfiaohlaaWordBytes
import Derived.OpenShut
namespace Go.Proofs.Ythinhknfiaohlaa
open Go.RowKit

theorem cell_lt {w : World} {p : Addr} {v : Value} (h : w.cell? p = some v) : p.block < w.heap.size := by
  rcases Nat.lt_or_ge p.block w.heap.size with hlt | hge
  · exact hlt
  · have : w.heap[p.block]? = none := Array.getElem?_eq_none hge
    simp [World.cell?, this] at h

/-- a slice of bytes that came in reads as its first elements -/
theorem row_bytes {w : World} {a : Option Addr} {len cap : Nat} {zs : List Int}
    (h : (a = none ∧ len = 0 ∧ cap = 0 ∧ zs = []) ∨ ∃ x, a = some x ∧ len ≤ cap ∧ cap ≤ maxLen ∧ zs.length = cap ∧ (∀ i, i < zs.length → w.cell? (x.add i) = some (.int .u8 (zs.getD i 0))) ∧ ∀ n ∈ zs, (Lit.int .u8 n).wf = true) :
    ∃ l : List Int, l.length = len ∧ AllB l ∧ Bytes w w.heap.size (.slice a len cap) l := by
  rcases h with ⟨rfl, rfl, rfl, rfl⟩ | ⟨x, rfl, hl, hm, hz, hcell, hwf⟩
  · exact ⟨[], rfl, fun _ h => by simp at h, ⟨none, 0, rfl, by simp, by omega, fun h => by simp at h⟩⟩
  · have hlen : (zs.take len).length = len := by rw [List.length_take]; omega
    refine ⟨zs.take len, hlen, fun y hy => bounds_u8 (hwf y (List.mem_of_mem_take hy)), ⟨some x, cap, by rw [hlen], by omega, by unfold maxLen at hm; omega, fun hp => ?_⟩⟩
    obtain ⟨b, off, spot⟩ := x
    have h0 := hcell 0 (by omega)
    have hs : spot = none := by simpa [Addr.add] using World.cell?_spot h0
    subst hs
    have hb := cell_lt h0
    refine ⟨b, off, rfl, by simpa [Addr.add] using hb, fun j hj => ?_⟩
    have hj' := hcell j (by omega)
    rw [List.getElem?_take_of_lt (by omega)]
    rw [← List.getD_eq_getElem?_getD]
    by_cases hj0 : j = 0
    · subst hj0; simpa [Addr.add] using hj'
    · simpa [Addr.add, hj0] using hj'

end Go.Proofs.Ythinhknfiaohlaa
