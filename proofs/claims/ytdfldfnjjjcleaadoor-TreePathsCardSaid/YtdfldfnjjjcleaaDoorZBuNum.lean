/-
  Layer 8, the landed package: Need, count, ofSize, fits, right, Right.
-/
import Derived.Test.YtdfldfnjjjcleaaDoorZTrDeep

namespace Go.Proofs.YtdfldfnjjjcleaaDoor
open Go.RowKit Go.Deep

theorem q_ceil (n d : Int) (w : World) (k : Nat) : Calls Tryd.prog 57 #[.int .i64 n, .int .i64 d] (w.drewN k) fun e w' => e = .returned (.int .i64 (ceilV n d)) ∧ ∃ m, w' = w.drewN m :=
  Calls.quiet_of_same ((ceil_any n d _).mono fun _ _ ⟨h1, h2⟩ => ⟨h1, h2.symm⟩)
theorem ceil8 (b : Nat) (h : b ≤ 1000000) : ceilV b 8 = ((b + 7) / 8 : Nat) := by
  unfold ceilV
  rw [if_pos (by omega)]
  split <;> omega
theorem ret_i64 {a b : Int} (h : a = b) : Ending.returned (.int .i64 a) = .returned (.int .i64 b) := by rw [h]

set_option maxRecDepth 100000 in
set_option maxHeartbeats 1000000 in
theorem need_any (t : Tr) (v : Value) (w : World) (h : TrV w w.heap.size t v) :
    Calls Tryd.prog 34 #[v] w fun e w' => e = .returned (.int .i64 (needT t)) ∧ Below w.heap.size w w' := by
  obtain ⟨k, z, ws, bs, ks⟩ := t
  obtain ⟨A1, c1, A2, c2, A3, c3, rfl, hg, -⟩ := h.parts
  obtain ⟨g1, g2, g3, g4, g5, -⟩ := hg
  clear h
  by_cases k1 : k = 1
  · subst k1
    rw [need1]
    generalize ws.length = nw at *
    generalize ks.length = nk at *
    unfold cellsT
    go_enter Tryd.func34, Tryd.ntmps34
    go_wp2_with fail
    go_ret
    exact ⟨by simp, (Below.refl _ _).alloc (Nat.le_refl _) _⟩
  · by_cases k2 : k = 2
    · subst k2
      rw [need2]
      generalize ws.length = nw at *
      generalize ks.length = nk at *
      generalize bs.length = nb at *
      have HQ := Lib.hid (fun w m => q_ceil nb 8 w m)
      rw [ceil8 nb g4] at HQ
      obtain ⟨q, hq⟩ : ∃ q, q = (nb + 7) / 8 := ⟨_, rfl⟩
      rw [← hq] at HQ ⊢
      have hq2 : q ≤ 1000000 := by omega
      have hw1 : IntKind.i64.wrap ((nw : Int) + nk) = nw + nk := IntWalk.i64_in _ (by omega)
      have hw2 : IntKind.i64.wrap ((nw : Int) + nk + q) = nw + nk + q := IntWalk.i64_in _ (by omega)
      clear hq
      unfold cellsT
      go_enter Tryd.func34, Tryd.ntmps34
      go_wp2_with fail
      go_quiet ((go_at_call 57; exact HQ.out _ _))
      go_wp2_with fail
      go_ret
      exact ⟨ret_i64 (by omega), below_drewN ((Below.refl _ _).alloc (Nat.le_refl _) _) _⟩
    · have hn : needT (.mk k z ws bs ks) = 0 := by
        unfold needT
        exact (if_neg k1).trans (if_neg k2)
      rw [hn]
      unfold cellsT
      go_enter Tryd.func34, Tryd.ntmps34
      go_wp2_with fail
      go_ret
      exact ⟨by simp, (Below.refl _ _).alloc (Nat.le_refl _) _⟩

/-- a node's three slices -/
theorem TrV.three {w : World} {B : Nat} {t : Tr} {k z : Int} {vw vb vk : Value} (h : TrV w B t (.agg (cellsT k z vw vb vk))) :
    ∃ A1 n1 c1 A2 n2 c2 A3 n3 c3, vw = .slice A1 n1 c1 ∧ vb = .slice A2 n2 c2 ∧ vk = .slice A3 n3 c3 := by
  obtain ⟨k', z', ws, bs, ks⟩ := t
  obtain ⟨A1, c1, A2, c2, A3, c3, e, -⟩ := h.parts
  unfold cellsT at e
  simp only [Value.agg.injEq, Array.mk.injEq, List.cons.injEq, and_true] at e
  exact ⟨_, _, _, _, _, _, _, _, _, e.2.2.1, e.2.2.2.1, e.2.2.2.2⟩

end Go.Proofs.YtdfldfnjjjcleaaDoor
