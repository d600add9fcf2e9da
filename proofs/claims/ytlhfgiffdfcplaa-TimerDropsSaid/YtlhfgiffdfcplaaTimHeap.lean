/-
  Layer 5: the program's Len, Less, Swap, as container/heap meets them.
-/
import Derived.Test.YtlhfgiffdfcplaaTimMem
import Derived.Deep.QuietTactic
import Derived.BigQuiet
import Derived.RegionTactic
import Derived.ChangeAlike
import Derived.BigRegion
import Derived.Deep.OwnRows
import Derived.Lib.AppendZeros
namespace Go.Proofs.Ytlhfgiffdfcplaa
open Go.RowKit Go.Deep Go.Sort

theorem wlen_any (W : World) (A : Option Addr) (n cap : Nat) : Calls Try.prog 50 #[.slice A n cap] W fun e w' => e = .returned (.int .i64 n) ∧ w' = W := by
  go_enter Try.func50, Try.ntmps50
  go_wp2_with fail
  go_ret
  exact ⟨rfl, rfl⟩

set_option maxRecDepth 100000 in
set_option maxHeartbeats 1000000 in
theorem wless_any {W : World} {a g cap : Nat} {mv : Value} {d : Array It} (h : Mem W a mv (.slice (some ⟨g, 0, none⟩) d.size cap) d) {i j : Nat} (hi : i < d.size) (hj : j < d.size) :
    Calls Try.prog 51 #[.slice (some ⟨g, 0, none⟩) d.size cap, .int .i64 i, .int .i64 j] W fun e w' => e = .returned (.bool (ltI d[i]! d[j]!)) ∧ ∃ n, w' = W.drewN n := by
  have c1 := h.cell hi
  have c2 := h.cell hj
  obtain ⟨k1, t1, -⟩ := (h.item i hi).cells
  obtain ⟨k2, t2, -⟩ := (h.item j hj).cells
  clear h
  generalize d[i]! = x at *
  generalize d[j]! = y at *
  generalize d.size = n at *
  obtain ⟨b1, ki, ti⟩ := x
  obtain ⟨b2, kj, tj⟩ := y
  simp only at c1 c2 k1 t1 k2 t2
  have i1 : (i : Int) < (n : Int) := by omega
  have i2 : (j : Int) < (n : Int) := by omega
  by_cases ht : ti = tj
  · have HL : Hid (ltI (b1, ki, ti) (b2, kj, tj) = decide (ki < kj)) := Lib.hid (by simp [ltI, ahead, ht])
    have d0 : (ti != tj) = false := by simp [ht]
    clear ht
    go_enter Try.func51, Try.ntmps51
    go_wp2_with fail
    go_quiet (fail)
    go_wp2_with fail
    go_quiet (fail)
    go_wp2_with fail
    go_ret
    exact ⟨by rw [HL.out]; rfl, _, by first | rfl | exact World.drewN_drewN _ _ _⟩
  · have HL : Hid (ltI (b1, ki, ti) (b2, kj, tj) = decide (ti < tj)) := Lib.hid (by simp [ltI, ahead, ht])
    have d0 : (ti != tj) = true := by simp [ht]
    clear ht
    go_enter Try.func51, Try.ntmps51
    go_wp2_with fail
    go_quiet (fail)
    go_wp2_with fail
    go_quiet (fail)
    go_wp2_with fail
    go_ret
    exact ⟨by rw [HL.out]; rfl, _, by first | rfl | exact World.drewN_drewN _ _ _⟩

set_option maxRecDepth 100000 in
set_option maxHeartbeats 4000000 in
theorem wswap_any {W : World} {a g cap : Nat} {mv : Value} {d : Array It} (h : Mem W a mv (.slice (some ⟨g, 0, none⟩) d.size cap) d) {i j : Nat} (hi : i < d.size) (hj : j < d.size) :
    Calls Try.prog 52 #[.slice (some ⟨g, 0, none⟩) d.size cap, .int .i64 i, .int .i64 j] W fun e w' => e = .returned (.tuple #[]) ∧ ∃ n m, w' = (placeW (swapW (W.drewN n) g d i j) d i j).drewN m := by
  have c1 := h.cell hi
  have c2 := h.cell hj
  have f1 : W.frozen? ⟨g, i, none⟩ = false := World.ownsRow.frozenAt h.row i
  have f2 : W.frozen? ⟨g, j, none⟩ = false := World.ownsRow.frozenAt h.row j
  have HM := Lib.hid h
  have i1 : (i : Int) < (d.size : Int) := by omega
  have i2 : (j : Int) < (d.size : Int) := by omega
  obtain ⟨x, hx⟩ : ∃ x, x = d[i]!.1 := ⟨_, rfl⟩
  obtain ⟨y, hy⟩ : ∃ y, y = d[j]!.1 := ⟨_, rfl⟩
  rw [← hx] at c1
  rw [← hy] at c2
  have HX := Lib.hid hx
  have HY := Lib.hid hy
  obtain ⟨v1, s1⟩ : ∃ v, (W.setCell ⟨g, i, none⟩ (.pointer (some ⟨y, 0, none⟩))).cell? ⟨g, j, none⟩ = some v := cell?_setCell_some c2
  clear h hx hy
  go_enter Try.func52, Try.ntmps52
  go_wp2_with fail
  go_region
  generalize hW1 : ((W.setCell ⟨g, i, none⟩ (.pointer (some ⟨y, 0, none⟩))).setCell ⟨g, j, none⟩ (.pointer (some ⟨x, 0, none⟩))).drew = W1
  have p1 : W1.cell? ⟨g, i, none⟩ = some (.pointer (some ⟨y, 0, none⟩)) := by
    rw [← hW1]
    show ((W.setCell ⟨g, i, none⟩ (.pointer (some ⟨y, 0, none⟩))).setCell ⟨g, j, none⟩ (.pointer (some ⟨x, 0, none⟩))).cell? ⟨g, i, none⟩ = _
    by_cases e : i = j
    · subst e
      rw [World.cell?_setCell_same' _ _ _ (by rw [s1]; rfl), HX.out, ← HY.out]
    · rw [World.cell?_setCell_other (h := fun h => e (by cases h; rfl)), World.cell?_setCell_same' _ _ _ (by rw [c1]; rfl)]
  have p2 : W1.cell? ⟨g, j, none⟩ = some (.pointer (some ⟨x, 0, none⟩)) := by
    rw [← hW1]
    exact World.cell?_setCell_same' _ _ _ (by rw [s1]; rfl)
  have q1 : ∃ v, W1.cell? ⟨x, 2, none⟩ = some v := by
    rw [← hW1, HX.out]
    obtain ⟨v, h⟩ := cell?_setCell_some (p := ⟨g, i, none⟩) (x := .pointer (some ⟨y, 0, none⟩)) (HM.out.item i hi).cells.2.2
    exact cell?_setCell_some h
  have q2 : ∃ v, W1.cell? ⟨y, 2, none⟩ = some v := by
    rw [← hW1, HY.out]
    obtain ⟨v, h⟩ := cell?_setCell_some (p := ⟨g, i, none⟩) (x := .pointer (some ⟨d[j]!.1, 0, none⟩)) (HM.out.item j hj).cells.2.2
    exact cell?_setCell_some h
  have z1 : W1.frozen? ⟨x, 2, none⟩ = false := by
    rw [← hW1, HX.out]
    show (((W.setCell _ _).setCell _ _).frozen? _) = false
    rw [World.frozen?_setCell, World.frozen?_setCell]
    exact (HM.out.item i hi).frozen 2
  have z2 : W1.frozen? ⟨y, 2, none⟩ = false := by
    rw [← hW1, HY.out]
    show (((W.setCell _ _).setCell _ _).frozen? _) = false
    rw [World.frozen?_setCell, World.frozen?_setCell]
    exact (HM.out.item j hj).frozen 2
  obtain ⟨u1, q1⟩ := q1
  obtain ⟨u2, q2⟩ := q2
  obtain ⟨u3, q3⟩ : ∃ v, (W1.setCell ⟨y, 2, none⟩ (.int .i64 i)).cell? ⟨x, 2, none⟩ = some v := cell?_setCell_some q1
  have HW1 := Lib.hid hW1
  clear hW1 c1 c2 f1 f2 s1
  go_wp2
  go_region
  go_wp2
  go_end0
  refine ⟨rfl, 0, 2, ?_⟩
  unfold placeW swapW
  rw [← HX.out, ← HY.out, ← HW1.out]
  rfl

/-! ### Pop, Push -/
theorem run_assert_w (v : Value) (w : World) : (Instr.typeAssert (.iface 67 v) 20 67 false).run Try.prog w = .ok v w := by
  unfold Instr.typeAssert
  simp [run_underlying Try.underlying67]
set_option maxRecDepth 100000 in
set_option maxHeartbeats 4000000 in
theorem wpop_any {W : World} {a g cap n : Nat} {mv : Value} {d : Array It} (h : Mem W a mv (.slice (some ⟨g, 0, none⟩) d.size cap) d) (hn : d.size = n + 1) (hc : d.size ≤ cap) (hm : d.size ≤ 1000000) :
    Calls Try.prog 53 #[.pointer (some ⟨a, 0, none⟩)] W fun e w' => e = .returned (.iface 67 (ptrOf d[n]!)) ∧ ∃ m, w' = (popW W a g n cap).drewN m := by
  have c1 := h.cell (i := n) (by omega)
  have f1 : W.frozen? ⟨g, n, none⟩ = false := World.ownsRow.frozenAt h.row n
  have c2 := h.q.cells.1
  have f2 := h.q.frozen 0
  have hga : g ≠ a := fun e => h.ar (by rw [← e]; rfl)
  have c3 : (W.setCell ⟨g, n, none⟩ (.pointer none)).cell? ⟨a, 0, none⟩ = some (.slice (some ⟨g, 0, none⟩) d.size cap) := by
    exact (World.cell?_of_block (blk_setCell_other _ _ _ _ (fun e => hga e.symm))).trans c2
  clear h
  rw [hn] at c2 c3 hc
  obtain ⟨x, hx⟩ : ∃ x, x = d[n]!.1 := ⟨_, rfl⟩
  rw [← hx] at c1
  have HX : Hid (ptrOf d[n]! = .pointer (some ⟨x, 0, none⟩)) := Lib.hid (by unfold ptrOf; rw [← hx])
  have i1 : (n : Int) < ((n + 1 : Nat) : Int) := by omega
  have i2 : (n : Int) ≤ (cap : Int) := by omega
  have hw : IntKind.i64.wrap (((n + 1 : Nat) : Int) - 1) = (n : Int) := by rw [show ((n + 1 : Nat) : Int) - 1 = (n : Int) by omega]; exact IntWalk.i64_in _ (by omega)
  have hw2 : IntKind.i64.wrap ((n : Int) + 1 - 1) = (n : Int) := by rw [show (n : Int) + 1 - 1 = (n : Int) by omega]; exact IntWalk.i64_in _ (by omega)
  clear hx
  go_enter Try.func53, Try.ntmps53
  go_wp2_with fail
  go_ret
  rw [HX.out]
  exact ⟨rfl, 0, rfl⟩

end Go.Proofs.Ytlhfgiffdfcplaa
