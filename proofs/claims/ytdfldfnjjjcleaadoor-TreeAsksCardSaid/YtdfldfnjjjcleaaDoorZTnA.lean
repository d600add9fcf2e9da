/-
  Layer 10, the document: a decoding in a box.
-/
import Derived.Test.YtdfldfnjjjcleaaDoorZTsB
import Derived.Test.YtdfldfnjjjcleaaDoorZRsA
import Derived.Test.YtdfldfnjjjcleaaDoorZMem

namespace Go.Proofs.YtdfldfnjjjcleaaDoor
open Go.RowKit Go.Deep

/-- a box of a decoding -/
def NBox (w : World) (b : Nat) (v : Value) (paid e : Int) : Prop := w.heap[b]? = some (.cells #[v, .bool false, .slice none 0 0, .int .i64 paid, .int .i64 e] 115 (0, 0))
theorem NBox.new (w : World) (v : Value) (paid e : Int) : NBox (w.alloc (.cells #[v, .bool false, .slice none 0 0, .int .i64 paid, .int .i64 e] 115)) w.heap.size v paid e := by unfold NBox; rw [blk_alloc_new]
theorem NBox.lt {w : World} {b : Nat} {v : Value} {p e : Int} (h : NBox w b v p e) : b < w.heap.size := (Array.getElem?_eq_some_iff.1 h).1
theorem NBox.on {w w' : World} {b : Nat} {v : Value} {p e : Int} (h : NBox w b v p e) (hB : Below w.heap.size w w') : NBox w' b v p e := (hB.block b h.lt).trans h
theorem NBox.cells {w : World} {b : Nat} {v : Value} {p e : Int} (h : NBox w b v p e) : w.cell? ⟨b, 0, none⟩ = some v ∧ w.cell? ⟨b, 1, none⟩ = some (.bool false) ∧ w.cell? ⟨b, 2, none⟩ = some (.slice none 0 0) ∧ w.cell? ⟨b, 3, none⟩ = some (.int .i64 p) ∧ w.cell? ⟨b, 4, none⟩ = some (.int .i64 e) := by
  unfold NBox at h
  simp [World.cell?, h]
theorem NBox.frozen {w : World} {b : Nat} {v : Value} {p e : Int} (h : NBox w b v p e) (i : Nat) : w.frozen? ⟨b, i, none⟩ = false := by
  unfold NBox at h
  simp [World.frozen?, h]
theorem NBox.pay {w : World} {b : Nat} {v : Value} {p e : Int} (h : NBox w b v p e) (x : Int) : NBox (w.setCell ⟨b, 3, none⟩ (.int .i64 x)) b v x e := by
  unfold NBox at *
  simp [World.setCell, Array.getElem?_modify, h]
theorem NBox.fail {w : World} {b : Nat} {v : Value} {p e : Int} (h : NBox w b v p e) (x : Int) : NBox (w.setCell ⟨b, 4, none⟩ (.int .i64 x)) b v p x := by
  unfold NBox at *
  simp [World.setCell, Array.getElem?_modify, h]
theorem NBox.put {w : World} {b : Nat} {v0 : Value} {p0 e0 : Int} (h : NBox w b v0 p0 e0) (v : Value) (p e : Int) : NBox (((((w.setCell ⟨b, 0, none⟩ v).setCell ⟨b, 1, none⟩ (.bool false)).setCell ⟨b, 2, none⟩ (.slice none 0 0)).setCell ⟨b, 3, none⟩ (.int .i64 p)).setCell ⟨b, 4, none⟩ (.int .i64 e)) b v p e := by
  unfold NBox at *
  simp [World.setCell, Array.getElem?_modify, h]
theorem NBox.apart {w : World} {b : Nat} {v : Value} {p e : Int} (h : NBox w b v p e) {g i : Nat} {x : Value} (hne : b ≠ g) : NBox (w.setCell ⟨g, i, none⟩ x) b v p e := (blk_setCell_other _ _ _ _ hne).trans h
theorem NBox.kept {w w' : World} {b : Nat} {v : Value} {p e : Int} {row : Option Nat} (h : NBox w b v p e) (hg : w.grownBy w' row) (hne : row ≠ some b) : NBox w' b v p e := (hg.block b h.lt (fun x => hne x.symm)).trans h
theorem OBox.apart {w : World} {b : Nat} {o : Ob} (h : OBox w b o) {g i : Nat} {x : Value} (hne : b ≠ g) : OBox (w.setCell ⟨g, i, none⟩ x) b o := (blk_setCell_other _ _ _ _ hne).trans h
theorem OBox.kept {w w' : World} {b : Nat} {o : Ob} {row : Option Nat} (h : OBox w b o) (hg : w.grownBy w' row) (hne : row ≠ some b) : OBox w' b o := (hg.block b h.lt (fun x => hne x.symm)).trans h

def putT (w : World) (r : Nat) (k z : Int) (vw vb vk : Value) : World := ((((w.setCell ⟨r, 0, none⟩ (.int .i64 k)).setCell ⟨r, 1, none⟩ (.int .i64 z)).setCell ⟨r, 2, none⟩ vw).setCell ⟨r, 3, none⟩ vb).setCell ⟨r, 4, none⟩ vk
theorem putT_other (w : World) (r : Nat) (k z : Int) (vw vb vk : Value) {b : Nat} (h : b ≠ r) : (putT w r k z vw vb vk).heap[b]? = w.heap[b]? := by
  unfold putT
  rw [blk_setCell_other _ _ _ _ h, blk_setCell_other _ _ _ _ h, blk_setCell_other _ _ _ _ h, blk_setCell_other _ _ _ _ h, blk_setCell_other _ _ _ _ h]
theorem below_putT {B : Nat} {a w : World} (h : Below B a w) {r : Nat} (hr : B ≤ r) (k z : Int) (vw vb vk : Value) : Below B a (putT w r k z vw vb vk) :=
  ((((h.setCell (p := ⟨r, 0, none⟩) hr _).setCell (p := ⟨r, 1, none⟩) hr _).setCell (p := ⟨r, 2, none⟩) hr _).setCell (p := ⟨r, 3, none⟩) hr _).setCell (p := ⟨r, 4, none⟩) hr _
theorem NBox.block {w w' : World} {b : Nat} {v : Value} {p e : Int} (h : NBox w b v p e) (hb : w'.heap[b]? = w.heap[b]?) : NBox w' b v p e := hb.trans h
theorem TBox.block {w w' : World} {b : Nat} {k z : Int} {vw vb vk : Value} (h : TBox w b k z vw vb vk) (hb : w'.heap[b]? = w.heap[b]?) : TBox w' b k z vw vb vk := hb.trans h
theorem NBox.frozens {w : World} {b : Nat} {v : Value} {p e : Int} (h : NBox w b v p e) : w.frozen? ⟨b, 0, none⟩ = false ∧ w.frozen? ⟨b, 1, none⟩ = false ∧ w.frozen? ⟨b, 2, none⟩ = false ∧ w.frozen? ⟨b, 3, none⟩ = false ∧ w.frozen? ⟨b, 4, none⟩ = false := ⟨h.frozen 0, h.frozen 1, h.frozen 2, h.frozen 3, h.frozen 4⟩
theorem TBox.putT {w : World} {b : Nat} {k0 z0 : Int} {w0 b0 n0 : Value} (h : TBox w b k0 z0 w0 b0 n0) (k z : Int) (vw vb vk : Value) : TBox (putT w b k z vw vb vk) b k z vw vb vk := ((((h.set0 k).set1 z).set2 vw).set3 vb).set4 vk
end Go.Proofs.YtdfldfnjjjcleaaDoor
