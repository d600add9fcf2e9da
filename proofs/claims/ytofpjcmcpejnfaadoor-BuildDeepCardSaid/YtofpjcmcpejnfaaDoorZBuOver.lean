/-
  Layer 8: a node over one kid, in memory.
-/
import Derived.Test.YtofpjcmcpejnfaaDoorZBuLawsA
import Derived.Test.YtofpjcmcpejnfaaDoorZPlain

namespace Go.Proofs.YtofpjcmcpejnfaaDoor
open Go.RowKit Go.Deep

theorem TrV.good {w : World} {B : Nat} {k z : Int} {ws bs : List Int} {ks : List Tr} {v : Value} (h : TrV w B (.mk k z ws bs ks) v) : Good1 k z ws bs ks.length := by
  obtain ⟨_, _, _, _, _, _, _, hg, _⟩ := h.parts
  exact hg
theorem kids_one {w : World} {B b : Nat} {k z : Int} {vw vb vk : Value} {T : Tr} (h : TBox w b k z vw vb vk) (ht : TrV w B T (.agg (cellsT k z vw vb vk))) : KidsAt w B b 0 [T] := by
  obtain ⟨h0, h1, h2, h3, h4⟩ := h.cells
  unfold KidsAt
  exact ⟨⟨k, z, vw, vb, vk, h0, h1, h2, h3, h4, ht⟩, by unfold KidsAt; trivial⟩
theorem kids_one_P {w : World} {P : Nat → Prop} {b : Nat} {k z : Int} {vw vb vk : Value} {T : Tr} (h : TBox w b k z vw vb vk) (ht : TrP w P T (.agg (cellsT k z vw vb vk))) : KidsP w P b 0 [T] := by
  obtain ⟨h0, h1, h2, h3, h4⟩ := h.cells
  unfold KidsP
  exact ⟨⟨k, z, vw, vb, vk, h0, h1, h2, h3, h4, ht⟩, by unfold KidsP; trivial⟩
theorem one_in (q : IntKind) (t : Nat) (w : World) (x : Int) : NumS q (w.alloc (.cells #[.int q x] t)) (w.alloc (.cells #[.int q x] t)).heap.size (.slice (some ⟨w.heap.size, 0, none⟩) 1 1) [x] := by
  refine ⟨_, 1, rfl, by simp, by omega, fun _ => ⟨w.heap.size, 0, rfl, by simp, fun j hj => ?_⟩⟩
  obtain rfl : j = 0 := by simp at hj; omega
  have := cell_one_new w (.int q x) t 0 (.int q x) rfl
  rwa [Addr.add_lit] at this
/-- a struct of one word over a tree -/
theorem over_V (W : World) (x : Int) (hx : 0 ≤ x ∧ x ≤ 18446744073709551615) (T : Tr) (k z : Int) (vw vb vk : Value) (h : TrV W W.heap.size T (.agg (cellsT k z vw vb vk))) :
    TrV ((W.alloc (.cells #[.int .u64 x] 44)).alloc (.cells (cellsT k z vw vb vk) 26)) ((W.alloc (.cells #[.int .u64 x] 44)).alloc (.cells (cellsT k z vw vb vk) 26)).heap.size (overT x T)
      (.agg (cellsT 1 0 (.slice (some ⟨W.heap.size, 0, none⟩) 1 1) (.slice none 0 0) (.slice (some ⟨(W.alloc (.cells #[.int .u64 x] 44)).heap.size, 0, none⟩) 1 1))) := by
  have hw := one_in .u64 44 W x
  have h1 : TrV (W.alloc (.cells #[.int .u64 x] 44)) (W.alloc (.cells #[.int .u64 x] 44)).heap.size T (.agg (cellsT k z vw vb vk)) := h.on ((Below.refl _ _).alloc (Nat.le_refl _) _)
  generalize W.alloc (.cells #[.int .u64 x] 44) = X at *
  have hb : Below X.heap.size X (X.alloc (.cells (cellsT k z vw vb vk) 26)) := (Below.refl _ _).alloc (Nat.le_refl _) _
  unfold overT TrV
  refine ⟨_, _, _, 1, rfl, ⟨⟨by decide, by decide⟩, ⟨by decide, by decide⟩, by simp, by simp, by simp, fun y hy => by rw [List.mem_singleton.1 hy]; exact hx, by simp⟩, hw.on hb, ⟨none, 0, rfl, by simp, by omega, fun h => by simp at h⟩, by simp, by omega, fun _ => ⟨X.heap.size, 0, rfl, by simp, kids_one (TBox.new X k z vw vb vk) (h1.on hb)⟩⟩
/-- a tree of one kid, and nothing else, of which it is known where it lies -/
theorem link_P (X : World) (lo : Nat) (hlo : lo ≤ X.heap.size) (k0 z0 : Int) (hk : In64 k0) (hz : In64 z0) (T : Tr) (k z : Int) (vw vb vk : Value) (h : TrP X (fun b => lo ≤ b ∧ b < X.heap.size) T (.agg (cellsT k z vw vb vk))) :
    TrP (X.alloc (.cells (cellsT k z vw vb vk) 26)) (fun b => lo ≤ b ∧ b < (X.alloc (.cells (cellsT k z vw vb vk) 26)).heap.size) (.mk k0 z0 [] [] [T])
      (.agg (cellsT k0 z0 (.slice none 0 0) (.slice none 0 0) (.slice (some ⟨X.heap.size, 0, none⟩) 1 1))) := by
  have hb : Below X.heap.size X (X.alloc (.cells (cellsT k z vw vb vk) 26)) := (Below.refl _ _).alloc (Nat.le_refl _) _
  have hs : (X.alloc (.cells (cellsT k z vw vb vk) 26)).heap.size = X.heap.size + 1 := by simp
  unfold TrP
  refine ⟨_, _, _, 1, rfl, ⟨hk, hz, by simp, by simp, by simp, by simp, by simp⟩, NumP.nil _ _ _, NumP.nil _ _ _, by simp, by omega, fun _ => ⟨X.heap.size, 0, rfl, ⟨hlo, by omega⟩, kids_one_P (TBox.new X k z vw vb vk) (TrP.mono (fun b hb => ⟨hb.1, by omega⟩) _ _ (TrP.keep (fun b h => hb.block b h.2) _ _ h))⟩⟩

mutual
theorem sameT_refl : (t : Tr) → sameT t t = true
  | .mk k z w b ks => by
    unfold sameT
    rw [sameAll_refl ks]
    simp
theorem sameAll_refl : (l : List Tr) → sameAll l l = true
  | [] => by unfold sameAll; rfl
  | t :: r => by
    unfold sameAll
    rw [sameT_refl t, sameAll_refl r]
    rfl
end
theorem over_same {x y : Int} {t : Tr} (h : x ≠ y) : sameT (overT x t) (overT y t) = false := by
  unfold overT sameT
  rw [decide_eq_false (fun e => h (by simpa using e.2.2.2))]
  rfl

end Go.Proofs.YtofpjcmcpejnfaaDoor
