/-
  Layer 8, the landed package: Need, count, ofSize, fits, right, Right.
-/
import Derived.Test.YtmcnnihhnapjpaaDoorZTrDeep

namespace Go.Proofs.YtmcnnihhnapjpaaDoor
open Go.RowKit Go.Deep

theorem q_ceil (n d : Int) (w : World) (k : Nat) : Calls Tryd.prog 57 #[.int .i64 n, .int .i64 d] (w.drewN k) fun e w' => e = .returned (.int .i64 (ceilV n d)) ∧ ∃ m, w' = w.drewN m :=
  Calls.quiet_of_same ((ceil_any n d _).mono fun _ _ ⟨h1, h2⟩ => ⟨h1, h2.symm⟩)
theorem ceil8 (b : Nat) (h : b ≤ 1000000) : ceilV b 8 = ((b + 7) / 8 : Nat) := by
  unfold ceilV
  rw [if_pos (by omega)]
  split <;> omega
theorem ret_i64 {a b : Int} (h : a = b) : Ending.returned (.int .i64 a) = .returned (.int .i64 b) := by rw [h]

/-- a node's three slices -/
theorem TrV.three {w : World} {B : Nat} {t : Tr} {k z : Int} {vw vb vk : Value} (h : TrV w B t (.agg (cellsT k z vw vb vk))) :
    ∃ A1 n1 c1 A2 n2 c2 A3 n3 c3, vw = .slice A1 n1 c1 ∧ vb = .slice A2 n2 c2 ∧ vk = .slice A3 n3 c3 := by
  obtain ⟨k', z', ws, bs, ks⟩ := t
  obtain ⟨A1, c1, A2, c2, A3, c3, e, -⟩ := h.parts
  unfold cellsT at e
  simp only [Value.agg.injEq, Array.mk.injEq, List.cons.injEq, and_true] at e
  exact ⟨_, _, _, _, _, _, _, _, _, e.2.2.1, e.2.2.2.1, e.2.2.2.2⟩

end Go.Proofs.YtmcnnihhnapjpaaDoor
