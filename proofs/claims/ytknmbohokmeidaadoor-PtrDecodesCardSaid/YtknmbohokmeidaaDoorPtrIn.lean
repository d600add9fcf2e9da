/-
  Layer 6: a pointer that came in.
-/
import Derived.Test.YtknmbohokmeidaaDoorPtrOK
import Derived.OpenShut
import Derived.Lib.SmallJoins
namespace Go.Proofs.YtknmbohokmeidaaDoor
open Go.ChangeShapes Go.WideShapes Go.RowKit Go.Deep

theorem cell_p {H : Type} {enc : TypeId × Value → H} {W : World} {base n : Nat} {sp : Nat → Bool} {held : Bool} {v : Value} {x : DataW H × List MemPlace} (h : DataW.trod enc Tryd.prog W base sp held n 3 [v] = some x) :
    v = .int .i64 (intOf v) ∧ I64 (intOf v) := by
  obtain ⟨z, e, _, hw⟩ := DataW.trod_int Tryd.underlying3 h
  simp only [List.cons.injEq, and_true] at e
  subst e
  exact ⟨rfl, bounds_i64 hw⟩
theorem cell_b {H : Type} {enc : TypeId × Value → H} {W : World} {base n : Nat} {sp : Nat → Bool} {held : Bool} {v : Value} {x : DataW H × List MemPlace} (h : DataW.trod enc Tryd.prog W base sp held n 4 [v] = some x) :
    ∃ b, v = .bool b := by
  obtain ⟨b, e, _⟩ := DataW.trod_bool Tryd.underlying4 h
  simp only [List.cons.injEq, and_true] at e
  exact ⟨b, e⟩
/-- a pointer that came in -/
theorem ptr_in {H : Type} {enc : TypeId × Value → H} {W : World} {r : Reach} {b0 : Nat} {v : Value} {d : DataW H} {ps : List MemPlace} (hv : Value.okWide Tryd.prog W r b0 24 v) (h : DataW.Trod enc Tryd.prog W 0 (fun _ => true) true 24 v d ps) :
    ∃ p : Pt, v = .agg (cellsP p) ∧ InP p := by
  obtain ⟨cs, rfl, hsz⟩ := okWide_struct Tryd.underlying24 hv
  obtain ⟨fuel, hf⟩ := h
  obtain ⟨cs⟩ := cs
  have hlen : cs.length = 8 := by
    have : Tryd.prog.cellsOf 24 = 8 := by kernel_rfl
    rw [this] at hsz
    simpa using hsz
  obtain ⟨xs, k, hk, hxy, _, hxl, hq⟩ := DataW.trod_struct Tryd.underlying24 hf
  match xs, hxl, cs, hlen with
  | [y0, y1, y2, y3, y4, y5, y6, y7], _, [v0, v1, v2, v3, v4, v5, v6, v7], _ =>
    have g0 := hq 0 _ rfl
    have g1 := hq 1 _ rfl
    have g2 := hq 2 _ rfl
    have g3 := hq 3 _ rfl
    have g4 := hq 4 _ rfl
    have g5 := hq 5 _ rfl
    have g6 := hq 6 _ rfl
    have g7 := hq 7 _ rfl
    have c4 : Tryd.prog.cellsOf 4 = 1 := by kernel_rfl
    have c3 : Tryd.prog.cellsOf 3 = 1 := by kernel_rfl
    simp [c4, c3, Value.cells] at g0 g1 g2 g3 g4 g5 g6 g7
    obtain ⟨e0, b0⟩ := cell_p g0
    obtain ⟨e1, b1⟩ := cell_p g1
    obtain ⟨e2, b2⟩ := cell_p g2
    obtain ⟨e3, b3⟩ := cell_p g3
    obtain ⟨e4, b4⟩ := cell_p g4
    obtain ⟨e5, b5⟩ := cell_p g5
    obtain ⟨e6, b6⟩ := cell_p g6
    obtain ⟨b, e7⟩ := cell_b g7
    refine ⟨⟨intOf v0, intOf v1, intOf v2, intOf v3, intOf v4, intOf v5, intOf v6, b⟩, ?_, b0, b1, b2, b3, b4, b5, b6⟩
    unfold cellsP
    dsimp only
    rw [← e0, ← e1, ← e2, ← e3, ← e4, ← e5, ← e6, ← e7]

end Go.Proofs.YtknmbohokmeidaaDoor
