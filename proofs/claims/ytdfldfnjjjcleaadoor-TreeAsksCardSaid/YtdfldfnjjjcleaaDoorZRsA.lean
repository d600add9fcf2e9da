/-
  Layer 9: things in memory.
-/
import Derived.Test.YtdfldfnjjjcleaaDoorZRdPlain
import Derived.Test.YtdfldfnjjjcleaaDoorZLaid
import Derived.Test.YtdfldfnjjjcleaaDoorZAr
import Derived.Deep.DeepCutAuto
import Derived.Deep.CutBlock
import Derived.Deep.RegionHeld3

namespace Go.Proofs.YtdfldfnjjjcleaaDoor
open Go.RowKit Go.Deep

def cellsO (o : Ob) : Array Value := #[.int .i64 o.kind, .int .i64 o.seg, .int .i64 o.at_, .int .i64 o.data, .int .i64 o.ptrs, .int .i64 o.size, .int .i64 o.count]
/-- a box of a thing -/
def OBox (w : World) (g : Nat) (o : Ob) : Prop := w.heap[g]? = some (.cells (cellsO o) 131 (0, 0))
theorem OBox.new (w : World) (o : Ob) : OBox (w.alloc (.cells (cellsO o) 131)) w.heap.size o := by unfold OBox; rw [blk_alloc_new]
theorem OBox.lt {w : World} {g : Nat} {o : Ob} (h : OBox w g o) : g < w.heap.size := (Array.getElem?_eq_some_iff.1 h).1
theorem OBox.on {w w' : World} {g : Nat} {o : Ob} (h : OBox w g o) (hB : Below w.heap.size w w') : OBox w' g o := (hB.block g h.lt).trans h
theorem OBox.cells {w : World} {g : Nat} {o : Ob} (h : OBox w g o) : w.cell? ⟨g, 0, none⟩ = some (.int .i64 o.kind) ∧ w.cell? ⟨g, 1, none⟩ = some (.int .i64 o.seg) ∧ w.cell? ⟨g, 2, none⟩ = some (.int .i64 o.at_) ∧ w.cell? ⟨g, 3, none⟩ = some (.int .i64 o.data) ∧ w.cell? ⟨g, 4, none⟩ = some (.int .i64 o.ptrs) ∧ w.cell? ⟨g, 5, none⟩ = some (.int .i64 o.size) ∧ w.cell? ⟨g, 6, none⟩ = some (.int .i64 o.count) := by
  unfold OBox at h
  simp [World.cell?, h, cellsO]
theorem OBox.set7 {w : World} {g : Nat} {o : Ob} (h : OBox w g o) (a b c d e f i : Int) :
    OBox (((((((w.setCell ⟨g, 0, none⟩ (.int .i64 a)).setCell ⟨g, 1, none⟩ (.int .i64 b)).setCell ⟨g, 2, none⟩ (.int .i64 c)).setCell ⟨g, 3, none⟩ (.int .i64 d)).setCell ⟨g, 4, none⟩ (.int .i64 e)).setCell ⟨g, 5, none⟩ (.int .i64 f)).setCell ⟨g, 6, none⟩ (.int .i64 i)) g ⟨a, b, c, d, e, f, i⟩ := by
  have h0 : w.heap[g]? = some (.cells (cellsO o) 131 (0, 0)) := h
  have h1 := heap_setCell_same _ g 0 _ _ (.int .i64 a) h0
  have h2 := heap_setCell_same _ g 1 _ _ (.int .i64 b) h1
  have h3 := heap_setCell_same _ g 2 _ _ (.int .i64 c) h2
  have h4 := heap_setCell_same _ g 3 _ _ (.int .i64 d) h3
  have h5 := heap_setCell_same _ g 4 _ _ (.int .i64 e) h4
  have h6 := heap_setCell_same _ g 5 _ _ (.int .i64 f) h5
  have h7 := heap_setCell_same _ g 6 _ _ (.int .i64 i) h6
  unfold OBox
  rw [h7]
  simp [cellsO]
theorem below_set7 {w W : World} {g : Nat} (h : Below w.heap.size w W) (hg : w.heap.size ≤ g) (a0 a1 a2 a3 a4 a5 a6 : Value) :
    Below w.heap.size w (((((((W.setCell ⟨g, 0, none⟩ a0).setCell ⟨g, 1, none⟩ a1).setCell ⟨g, 2, none⟩ a2).setCell ⟨g, 3, none⟩ a3).setCell ⟨g, 4, none⟩ a4).setCell ⟨g, 5, none⟩ a5).setCell ⟨g, 6, none⟩ a6) :=
  ((((((h.setCell (p := ⟨g, 0, none⟩) hg a0).setCell (p := ⟨g, 1, none⟩) hg a1).setCell (p := ⟨g, 2, none⟩) hg a2).setCell (p := ⟨g, 3, none⟩) hg a3).setCell (p := ⟨g, 4, none⟩) hg a4).setCell (p := ⟨g, 5, none⟩) hg a5).setCell (p := ⟨g, 6, none⟩) hg a6
theorem OBox.frozen {w : World} {g : Nat} {o : Ob} (h : OBox w g o) (j : Nat) : w.frozen? ⟨g, j, none⟩ = false := by
  unfold OBox at h
  simp [World.frozen?, h]
theorem OBox.frozens {w : World} {g : Nat} {o : Ob} (h : OBox w g o) : w.frozen? ⟨g, 0, none⟩ = false ∧ w.frozen? ⟨g, 1, none⟩ = false ∧ w.frozen? ⟨g, 2, none⟩ = false ∧ w.frozen? ⟨g, 3, none⟩ = false ∧ w.frozen? ⟨g, 4, none⟩ = false ∧ w.frozen? ⟨g, 5, none⟩ = false ∧ w.frozen? ⟨g, 6, none⟩ = false :=
  ⟨h.frozen 0, h.frozen 1, h.frozen 2, h.frozen 3, h.frozen 4, h.frozen 5, h.frozen 6⟩

/-- a box of a pointer that is told -/
def PZBox (w : World) (g : Nat) (p : Pt) : Prop := w.heap[g]? = some (.cells (cellsP p) 69 (0, 0))
theorem PZBox.new (w : World) (p : Pt) : PZBox (w.alloc (.cells (cellsP p) 69)) w.heap.size p := by unfold PZBox; rw [blk_alloc_new]
theorem PZBox.lt {w : World} {g : Nat} {p : Pt} (h : PZBox w g p) : g < w.heap.size := (Array.getElem?_eq_some_iff.1 h).1
theorem PZBox.on {w w' : World} {g : Nat} {p : Pt} (h : PZBox w g p) (hB : Below w.heap.size w w') : PZBox w' g p := (hB.block g h.lt).trans h
theorem PZBox.cells {w : World} {g : Nat} {p : Pt} (h : PZBox w g p) : w.cell? ⟨g, 0, none⟩ = some (.int .i64 p.kind) ∧ w.cell? ⟨g, 1, none⟩ = some (.int .i64 p.off) ∧ w.cell? ⟨g, 2, none⟩ = some (.int .i64 p.data) ∧ w.cell? ⟨g, 3, none⟩ = some (.int .i64 p.ptrs) ∧ w.cell? ⟨g, 4, none⟩ = some (.int .i64 p.size) ∧ w.cell? ⟨g, 5, none⟩ = some (.int .i64 p.count) ∧ w.cell? ⟨g, 6, none⟩ = some (.int .i64 p.seg) ∧ w.cell? ⟨g, 7, none⟩ = some (.bool p.dbl) := by
  unfold PZBox at h
  simp [World.cell?, h, cellsP]
theorem PZBox.frozen {w : World} {g : Nat} {p : Pt} (h : PZBox w g p) (j : Nat) : w.frozen? ⟨g, j, none⟩ = false := by
  unfold PZBox at h
  simp [World.frozen?, h]
theorem PZBox.frozens {w : World} {g : Nat} {p : Pt} (h : PZBox w g p) : w.frozen? ⟨g, 0, none⟩ = false ∧ w.frozen? ⟨g, 1, none⟩ = false ∧ w.frozen? ⟨g, 2, none⟩ = false ∧ w.frozen? ⟨g, 3, none⟩ = false ∧ w.frozen? ⟨g, 4, none⟩ = false ∧ w.frozen? ⟨g, 5, none⟩ = false ∧ w.frozen? ⟨g, 6, none⟩ = false ∧ w.frozen? ⟨g, 7, none⟩ = false :=
  ⟨h.frozen 0, h.frozen 1, h.frozen 2, h.frozen 3, h.frozen 4, h.frozen 5, h.frozen 6, h.frozen 7⟩
/-- a pointer stored into a box, field by field -/
def put8 (w : World) (g : Nat) (p : Pt) : World := (((((((w.setCell ⟨g, 0, none⟩ (.int .i64 p.kind)).setCell ⟨g, 1, none⟩ (.int .i64 p.off)).setCell ⟨g, 2, none⟩ (.int .i64 p.data)).setCell ⟨g, 3, none⟩ (.int .i64 p.ptrs)).setCell ⟨g, 4, none⟩ (.int .i64 p.size)).setCell ⟨g, 5, none⟩ (.int .i64 p.count)).setCell ⟨g, 6, none⟩ (.int .i64 p.seg)).setCell ⟨g, 7, none⟩ (.bool p.dbl)
theorem PZBox.put {w : World} {g : Nat} {q : Pt} (h : PZBox w g q) (p : Pt) : PZBox (put8 w g p) g p := by
  have h0 : w.heap[g]? = some (.cells (cellsP q) 69 (0, 0)) := h
  have h1 := heap_setCell_same _ g 0 _ _ (.int .i64 p.kind) h0
  have h2 := heap_setCell_same _ g 1 _ _ (.int .i64 p.off) h1
  have h3 := heap_setCell_same _ g 2 _ _ (.int .i64 p.data) h2
  have h4 := heap_setCell_same _ g 3 _ _ (.int .i64 p.ptrs) h3
  have h5 := heap_setCell_same _ g 4 _ _ (.int .i64 p.size) h4
  have h6 := heap_setCell_same _ g 5 _ _ (.int .i64 p.count) h5
  have h7 := heap_setCell_same _ g 6 _ _ (.int .i64 p.seg) h6
  have h8 := heap_setCell_same _ g 7 _ _ (.bool p.dbl) h7
  unfold PZBox put8
  rw [h8]
  simp [cellsP]
end Go.Proofs.YtdfldfnjjjcleaaDoor

namespace Go.Proofs.YtdfldfnjjjcleaaDoor
open Go.RowKit Go.Deep

def S9Box (w : World) (b : Nat) (v : Value) : Prop := w.heap[b]? = some (.cells #[v, .bool false, .slice none 0 0] 110 (0, 0))
theorem S9Box.new (w : World) (v : Value) : S9Box (w.alloc (.cells #[v, .bool false, .slice none 0 0] 110)) w.heap.size v := by unfold S9Box; rw [blk_alloc_new]
theorem S9Box.lt {w : World} {b : Nat} {v : Value} (h : S9Box w b v) : b < w.heap.size := (Array.getElem?_eq_some_iff.1 h).1
theorem S9Box.on {w w' : World} {b : Nat} {v : Value} (h : S9Box w b v) (hB : Below w.heap.size w w') : S9Box w' b v := (hB.block b h.lt).trans h
theorem S9Box.cells {w : World} {b : Nat} {v : Value} (h : S9Box w b v) : w.cell? ⟨b, 0, none⟩ = some v ∧ w.cell? ⟨b, 1, none⟩ = some (.bool false) := by
  unfold S9Box at h
  simp [World.cell?, h]

end Go.Proofs.YtdfldfnjjjcleaaDoor

namespace Go.Proofs.YtdfldfnjjjcleaaDoor
open Go.RowKit Go.Deep

end Go.Proofs.YtdfldfnjjjcleaaDoor

namespace Go.Proofs.YtdfldfnjjjcleaaDoor
open Go.RowKit Go.Deep

end Go.Proofs.YtdfldfnjjjcleaaDoor

namespace Go.Proofs.YtdfldfnjjjcleaaDoor
open Go.RowKit Go.Deep

end Go.Proofs.YtdfldfnjjjcleaaDoor

namespace Go.Proofs.YtdfldfnjjjcleaaDoor
open Go.RowKit Go.Deep

end Go.Proofs.YtdfldfnjjjcleaaDoor
