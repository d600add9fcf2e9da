/-
  Layer 7: slices of ints, and arenas, that came in.
-/
import Derived.Test.YtdfldfnjjjcleaaDoorZAr
import Derived.Test.YtdfldfnjjjcleaaDoorZWord
import Derived.Deep.Matrix
import Derived.OpenShut
import Derived.Lib.SmallJoins

namespace Go.Proofs.YtdfldfnjjjcleaaDoor
open Go.ChangeShapes Go.WideShapes Go.RowKit Go.Deep

/-- a slice of ints that came in reads as its first elements -/
theorem row_ints {w : World} {a : Option Addr} {len cap : Nat} {zs : List Int}
    (h : (a = none ∧ len = 0 ∧ cap = 0 ∧ zs = []) ∨ ∃ x, a = some x ∧ len ≤ cap ∧ cap ≤ maxLen ∧ zs.length = cap ∧ (∀ i, i < zs.length → w.cell? (x.add i) = some (.int .i64 (zs.getD i 0))) ∧ ∀ n ∈ zs, (Lit.int .i64 n).wf = true) :
    ∃ l : List Int, l.length = len ∧ All64 l ∧ NumS .i64 w w.heap.size (.slice a len cap) l := by
  rcases h with ⟨rfl, rfl, rfl, rfl⟩ | ⟨x, rfl, hl, hm, hz, hcell, hwf⟩
  · exact ⟨[], rfl, fun _ h => by simp at h, ⟨none, 0, rfl, by simp, by omega, fun h => by simp at h⟩⟩
  · have hlen : (zs.take len).length = len := by rw [List.length_take]; omega
    refine ⟨zs.take len, hlen, fun y hy => bounds_i64 (hwf y (List.mem_of_mem_take hy)), ⟨some x, cap, by rw [hlen], by omega, by unfold maxLen at hm; omega, fun hp => ?_⟩⟩
    obtain ⟨b, off, spot⟩ := x
    have h0 := hcell 0 (by omega)
    have hs : spot = none := by simpa [Addr.add] using World.cell?_spot h0
    subst hs
    have hb := cell_lt h0
    refine ⟨b, off, rfl, by simpa [Addr.add] using hb, fun j hj => ?_⟩
    have hj' := hcell j (by omega)
    rw [List.getElem?_take_of_lt (by omega)]
    rw [← List.getD_eq_getElem?_getD]
    by_cases hj0 : j = 0
    · subst hj0; simpa [Addr.add] using hj'
    · simpa [Addr.add, hj0] using hj'

end Go.Proofs.YtdfldfnjjjcleaaDoor

namespace Go.Proofs.YtdfldfnjjjcleaaDoor
open Go.ChangeShapes Go.WideShapes Go.RowKit Go.Deep

theorem ints_in10 {H : Type} {enc : TypeId × Value → H} {W : World} {n : Nat} {held : Bool} {v : Value} {x : DataW H × List MemPlace} (h : DataW.trod enc Tryd.prog W 0 (fun _ => true) held n 31 [v] = some x) :
    ∃ a len cap, v = .slice a len cap ∧ ∃ l : List Int, l.length = len ∧ All64 l ∧ NumS .i64 W W.heap.size (.slice a len cap) l := by
  rcases open_ints Tryd.underlying31 Tryd.underlying3 (by kernel_rfl) h with ⟨hcs, rfl⟩ | ⟨a, len, cap, zs, hcs, _, hl, hm, hz, rfl, hcell, hwz⟩
  · simp only [List.cons.injEq, and_true] at hcs
    subst hcs
    exact ⟨none, 0, 0, rfl, [], rfl, (fun _ h => by simp at h), NumS.nil _ _ _⟩
  · simp only [List.cons.injEq, and_true] at hcs
    subst hcs
    simp only [if_true] at hz
    exact ⟨some a, len, cap, rfl, row_ints (zs := zs) (.inr ⟨a, rfl, hl, hm, by simpa using hz, hcell, hwz⟩)⟩
set_option maxRecDepth 20000 in
theorem path_in {H : Type} {enc : TypeId × Value → H} {W : World} {r : Reach} {b0 : Nat} {v : Value} {d : DataW H} {p : List MemPlace} (hv : Value.okWide Tryd.prog W r b0 33 v) (h : DataW.Trod enc Tryd.prog W 0 (fun _ => true) true 33 v d p) :
    ∃ (a : Option Addr) (len cap : Nat) (i : Int), v = .agg #[.slice a len cap, .int .i64 i] ∧ In64 i ∧ ∃ l : List Int, l.length = len ∧ All64 l ∧ NumS .i64 W W.heap.size (.slice a len cap) l := by
  obtain ⟨v0, v1, y0, y1, n, rfl, _, _, h0, h1⟩ := Go.Joins.open_agg2 Tryd.underlying33 (by kernel_rfl) (by kernel_rfl) hv h
  obtain ⟨z, e, _, hw⟩ := DataW.trod_int Tryd.underlying3 h1
  simp only [List.cons.injEq, and_true] at e
  subst e
  obtain ⟨a, len, cap, rfl, l, h2⟩ := ints_in10 h0
  exact ⟨a, len, cap, _, rfl, bounds_i64 hw, l, h2⟩

end Go.Proofs.YtdfldfnjjjcleaaDoor
