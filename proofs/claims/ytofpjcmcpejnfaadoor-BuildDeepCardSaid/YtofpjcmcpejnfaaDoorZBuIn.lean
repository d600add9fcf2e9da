/-
  Layer 8: a slice of bools that came in.
-/
import Derived.Test.YtofpjcmcpejnfaaDoorRows
import Derived.Test.YtofpjcmcpejnfaaDoorZWord
import Derived.Deep.Grids
import Derived.OpenShut

namespace Go.Proofs.YtofpjcmcpejnfaaDoor
open Go.ChangeShapes Go.WideShapes Go.RowKit Go.Deep

/-- a slice of bools that came in -/
theorem bools_in {H : Type} {enc : TypeId × Value → H} {W : World} {a : Option Addr} {len cap : Nat} {d : DataW H} {ps : List MemPlace} (h : DataW.Trod enc Tryd.prog W 0 (fun _ => true) true 41 (.slice a len cap) d ps) :
    ∃ f : Nat → Bool, len ≤ 9223372036854775807 ∧ (0 < len → ∃ b off, a = some ⟨b, off, none⟩ ∧ b < W.heap.size ∧ ∀ j, j < len → W.cell? ⟨b, off + j, none⟩ = some (.bool (f j))) := by
  obtain ⟨fuel, hf⟩ := h
  rcases open_bools Tryd.underlying41 Tryd.underlying4 (by kernel_rfl) hf with ⟨hcs, hx⟩ | ⟨x, l0, c0, B, hcs, _, hl, hm, hx, hcell⟩
  · simp [Value.cells] at hcs
    obtain ⟨rfl, rfl, rfl⟩ := hcs
    exact ⟨fun _ => false, by omega, fun h => by omega⟩
  · simp [Value.cells] at hcs
    obtain ⟨rfl, rfl, rfl⟩ := hcs
    refine ⟨B, by unfold maxLen at hm; omega, fun hp => ?_⟩
    obtain ⟨b, off, spot⟩ := x
    have h0 := hcell 0 (by omega)
    have hs : spot = none := by simpa [Addr.add] using World.cell?_spot h0
    subst hs
    have hb := cell_lt h0
    refine ⟨b, off, rfl, by simpa [Addr.add] using hb, fun j hj => ?_⟩
    have hj' := hcell j (by omega)
    rwa [Addr.add_lit] at hj'

end Go.Proofs.YtofpjcmcpejnfaaDoor
