/-
  Layer 9: things in memory.
-/
import Derived.Test.YtmmlfnblodfjbaaGreatDoorZRdPlain
import Derived.Test.YtmmlfnblodfjbaaGreatDoorZLaid
import Derived.Test.YtmmlfnblodfjbaaGreatDoorZAr
import Derived.Deep.DeepCutAuto
import Derived.Deep.CutBlock
import Derived.Deep.RegionHeld3

namespace Go.Proofs.YtmmlfnblodfjbaaGreatDoor
open Go.RowKit Go.Deep

def cellsO (o : Ob) : Array Value := #[.int .i64 o.kind, .int .i64 o.seg, .int .i64 o.at_, .int .i64 o.data, .int .i64 o.ptrs, .int .i64 o.size, .int .i64 o.count]
/-- a box of a thing -/
def OBox (w : World) (g : Nat) (o : Ob) : Prop := w.heap[g]? = some (.cells (cellsO o) 129 (0, 0))
theorem OBox.new (w : World) (o : Ob) : OBox (w.alloc (.cells (cellsO o) 129)) w.heap.size o := by unfold OBox; rw [blk_alloc_new]
theorem OBox.lt {w : World} {g : Nat} {o : Ob} (h : OBox w g o) : g < w.heap.size := (Array.getElem?_eq_some_iff.1 h).1
theorem OBox.on {w w' : World} {g : Nat} {o : Ob} (h : OBox w g o) (hB : Below w.heap.size w w') : OBox w' g o := (hB.block g h.lt).trans h
theorem OBox.cells {w : World} {g : Nat} {o : Ob} (h : OBox w g o) : w.cell? ⟨g, 0, none⟩ = some (.int .i64 o.kind) ∧ w.cell? ⟨g, 1, none⟩ = some (.int .i64 o.seg) ∧ w.cell? ⟨g, 2, none⟩ = some (.int .i64 o.at_) ∧ w.cell? ⟨g, 3, none⟩ = some (.int .i64 o.data) ∧ w.cell? ⟨g, 4, none⟩ = some (.int .i64 o.ptrs) ∧ w.cell? ⟨g, 5, none⟩ = some (.int .i64 o.size) ∧ w.cell? ⟨g, 6, none⟩ = some (.int .i64 o.count) := by
  unfold OBox at h
  simp [World.cell?, h, cellsO]
theorem OBox.set7 {w : World} {g : Nat} {o : Ob} (h : OBox w g o) (a b c d e f i : Int) :
    OBox (((((((w.setCell ⟨g, 0, none⟩ (.int .i64 a)).setCell ⟨g, 1, none⟩ (.int .i64 b)).setCell ⟨g, 2, none⟩ (.int .i64 c)).setCell ⟨g, 3, none⟩ (.int .i64 d)).setCell ⟨g, 4, none⟩ (.int .i64 e)).setCell ⟨g, 5, none⟩ (.int .i64 f)).setCell ⟨g, 6, none⟩ (.int .i64 i)) g ⟨a, b, c, d, e, f, i⟩ := by
  have h0 : w.heap[g]? = some (.cells (cellsO o) 129 (0, 0)) := h
  have h1 := heap_setCell_same _ g 0 _ _ (.int .i64 a) h0
  have h2 := heap_setCell_same _ g 1 _ _ (.int .i64 b) h1
  have h3 := heap_setCell_same _ g 2 _ _ (.int .i64 c) h2
  have h4 := heap_setCell_same _ g 3 _ _ (.int .i64 d) h3
  have h5 := heap_setCell_same _ g 4 _ _ (.int .i64 e) h4
  have h6 := heap_setCell_same _ g 5 _ _ (.int .i64 f) h5
  have h7 := heap_setCell_same _ g 6 _ _ (.int .i64 i) h6
  unfold OBox
  rw [h7]
  simp [cellsO]
theorem below_set7 {w W : World} {g : Nat} (h : Below w.heap.size w W) (hg : w.heap.size ≤ g) (a0 a1 a2 a3 a4 a5 a6 : Value) :
    Below w.heap.size w (((((((W.setCell ⟨g, 0, none⟩ a0).setCell ⟨g, 1, none⟩ a1).setCell ⟨g, 2, none⟩ a2).setCell ⟨g, 3, none⟩ a3).setCell ⟨g, 4, none⟩ a4).setCell ⟨g, 5, none⟩ a5).setCell ⟨g, 6, none⟩ a6) :=
  ((((((h.setCell (p := ⟨g, 0, none⟩) hg a0).setCell (p := ⟨g, 1, none⟩) hg a1).setCell (p := ⟨g, 2, none⟩) hg a2).setCell (p := ⟨g, 3, none⟩) hg a3).setCell (p := ⟨g, 4, none⟩) hg a4).setCell (p := ⟨g, 5, none⟩) hg a5).setCell (p := ⟨g, 6, none⟩) hg a6
theorem OBox.frozen {w : World} {g : Nat} {o : Ob} (h : OBox w g o) (j : Nat) : w.frozen? ⟨g, j, none⟩ = false := by
  unfold OBox at h
  simp [World.frozen?, h]
theorem OBox.frozens {w : World} {g : Nat} {o : Ob} (h : OBox w g o) : w.frozen? ⟨g, 0, none⟩ = false ∧ w.frozen? ⟨g, 1, none⟩ = false ∧ w.frozen? ⟨g, 2, none⟩ = false ∧ w.frozen? ⟨g, 3, none⟩ = false ∧ w.frozen? ⟨g, 4, none⟩ = false ∧ w.frozen? ⟨g, 5, none⟩ = false ∧ w.frozen? ⟨g, 6, none⟩ = false :=
  ⟨h.frozen 0, h.frozen 1, h.frozen 2, h.frozen 3, h.frozen 4, h.frozen 5, h.frozen 6⟩

end Go.Proofs.YtmmlfnblodfjbaaGreatDoor

namespace Go.Proofs.YtmmlfnblodfjbaaGreatDoor
open Go.RowKit Go.Deep

end Go.Proofs.YtmmlfnblodfjbaaGreatDoor

namespace Go.Proofs.YtmmlfnblodfjbaaGreatDoor
open Go.RowKit Go.Deep

end Go.Proofs.YtmmlfnblodfjbaaGreatDoor

namespace Go.Proofs.YtmmlfnblodfjbaaGreatDoor
open Go.RowKit Go.Deep

end Go.Proofs.YtmmlfnblodfjbaaGreatDoor

namespace Go.Proofs.YtmmlfnblodfjbaaGreatDoor
open Go.RowKit Go.Deep

end Go.Proofs.YtmmlfnblodfjbaaGreatDoor

namespace Go.Proofs.YtmmlfnblodfjbaaGreatDoor
open Go.RowKit Go.Deep

end Go.Proofs.YtmmlfnblodfjbaaGreatDoor
