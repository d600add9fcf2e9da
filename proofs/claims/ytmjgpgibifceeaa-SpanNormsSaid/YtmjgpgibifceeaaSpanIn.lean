/-
  Layer 4: a slice of spans, and a span, that came in.
-/
import Derived.Test.YtmjgpgibifceeaaSpanKnown
import Derived.Test.YtmjgpgibifceeaaWordRow
import Derived.Deep.SlicePairs
import Derived.Lib.SmallJoins
namespace Go.Proofs.Ytmjgpgibifceeaa
open Go.ChangeShapes Go.WideShapes Go.RowKit Go.Deep

theorem cell_int {H : Type} {enc : TypeId × Value → H} {W : World} {base n : Nat} {sp : Nat → Bool} {held : Bool} {v : Value} {x : DataW H × List MemPlace} (h : DataW.trod enc Try.prog W base sp held n 3 [v] = some x) :
    v = .int .i64 (intOf v) ∧ -9223372036854775808 ≤ intOf v ∧ intOf v ≤ 9223372036854775807 := by
  obtain ⟨z, e, _, hw⟩ := DataW.trod_int Try.underlying3 h
  simp only [List.cons.injEq, and_true] at e
  subst e
  exact ⟨rfl, (bounds_i64 hw).1, (bounds_i64 hw).2⟩

/-- a slice of spans that came in reads as a list of spans -/
theorem spans_in {H : Type} {enc : TypeId × Value → H} {W : World} {a : Option Addr} {len cap : Nat} {d : DataW H} {ps : List MemPlace} (h : DataW.Trod enc Try.prog W 0 (fun _ => true) true 22 (.slice a len cap) d ps) :
    ∃ l : List Sp, l.length = len ∧ AllS l ∧ Spans W W.heap.size (.slice a len cap) l := by
  obtain ⟨fuel, hf⟩ := h
  rcases open_slice_pairs Try.underlying22 Try.underlying24 (by kernel_rfl) rfl rfl (by kernel_rfl) (by kernel_rfl) hf with ⟨hcs, _⟩ | ⟨x, l0, c0, m, n, V0, V1, D0, D1, P0, P1, hcs, _, hl, hm, hmm, _, hcell⟩
  · simp [Value.cells] at hcs
    obtain ⟨rfl, rfl, rfl⟩ := hcs
    exact ⟨[], rfl, fun s hs => by simp at hs, nil_spans _ _⟩
  · simp [Value.cells] at hcs
    obtain ⟨rfl, rfl, rfl⟩ := hcs
    simp only [if_true] at hmm
    subst hmm
    have hv : ∀ i, i < m → V0 i = .int .i64 (intOf (V0 i)) ∧ -9223372036854775808 ≤ intOf (V0 i) ∧ intOf (V0 i) ≤ 9223372036854775807 := fun i hi => cell_int (hcell i hi).2.2.1
    have hu : ∀ i, i < m → V1 i = .int .i64 (intOf (V1 i)) ∧ -9223372036854775808 ≤ intOf (V1 i) ∧ intOf (V1 i) ≤ 9223372036854775807 := fun i hi => cell_int (hcell i hi).2.2.2
    refine ⟨(List.range len).map fun i => (intOf (V0 i), intOf (V1 i)), by simp, fun s hs => ?_, ⟨some x, m, by simp, by simpa using hl, by unfold maxLen at hm; omega, fun hp => ?_⟩⟩
    · obtain ⟨i, hi, rfl⟩ := List.mem_map.1 hs
      have hi' : i < m := by have := List.mem_range.1 hi; omega
      exact ⟨(hv i hi').2.1, (hv i hi').2.2, (hu i hi').2.1, (hu i hi').2.2⟩
    · have hp' : 0 < len := by simpa using hp
      obtain ⟨b, off, spot⟩ := x
      have h0 := (hcell 0 (by omega)).1
      have hs : spot = none := by simpa [Addr.add] using World.cell?_spot h0
      subst hs
      have hb := cell_lt h0
      refine ⟨b, off, rfl, by simpa [Addr.add] using hb, fun j hj => ?_⟩
      have hj' : j < len := by simpa using hj
      have e : ((List.range len).map fun i => (intOf (V0 i), intOf (V1 i)))[j]?.getD (0, 0) = (intOf (V0 j), intOf (V1 j)) := by simp [hj']
      rw [e, ← (hv j (by omega)).1, ← (hu j (by omega)).1]
      have hc := hcell j (by omega)
      have e1 : (⟨b, off, none⟩ : Addr).add (j * 2) = ⟨b, off + j * 2, none⟩ := by simp [Addr.add]
      have e2 : (⟨b, off, none⟩ : Addr).add (j * 2 + 1) = ⟨b, off + j * 2 + 1, none⟩ := by simp [Addr.add, Nat.add_assoc]
      rw [e1, e2] at hc
      exact ⟨hc.1, hc.2.1⟩

/-- a span that came in -/
theorem span_in {H : Type} {enc : TypeId × Value → H} {W : World} {r : Reach} {b0 : Nat} {v : Value} {d : DataW H} {p : List MemPlace} (hv : Value.okWide Try.prog W r b0 24 v) (h : DataW.Trod enc Try.prog W 0 (fun _ => true) true 24 v d p) :
    ∃ x y : Int, v = .agg #[.int .i64 x, .int .i64 y] ∧ -9223372036854775808 ≤ x ∧ x ≤ 9223372036854775807 ∧ -9223372036854775808 ≤ y ∧ y ≤ 9223372036854775807 := by
  obtain ⟨v0, v1, y0, y1, n, rfl, _, _, h0, h1⟩ := Go.Joins.open_agg2 Try.underlying24 (by kernel_rfl) (by kernel_rfl) hv h
  obtain ⟨e0, a0, a1⟩ := cell_int h0
  obtain ⟨e1, a2, a3⟩ := cell_int h1
  exact ⟨_, _, by rw [← e0, ← e1], a0, a1, a2, a3⟩

end Go.Proofs.Ytmjgpgibifceeaa
