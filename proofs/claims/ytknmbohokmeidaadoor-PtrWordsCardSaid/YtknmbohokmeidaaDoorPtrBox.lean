/-
  Layer 6: what the laws ask of the program's Decode, Encode and Words (PtrOK: paid by the program's own walks), given what its variables hold (Laid); boxes of pointers.
-/
import Derived.Test.YtknmbohokmeidaaDoorPtrEnc
import Derived.Test.YtknmbohokmeidaaDoorPtrWords
import Derived.Test.YtknmbohokmeidaaDoorPtrLaid
namespace Go.Proofs.YtknmbohokmeidaaDoor
open Go.RowKit Go.Deep

def I64 (x : Int) : Prop := -9223372036854775808 ≤ x ∧ x ≤ 9223372036854775807
def InP (p : Pt) : Prop := I64 p.kind ∧ I64 p.off ∧ I64 p.data ∧ I64 p.ptrs ∧ I64 p.size ∧ I64 p.count ∧ I64 p.seg
structure PtrOK : Prop where
  dec : ∀ (n : Int) (w : World), 0 ≤ n → n ≤ 18446744073709551615 → Laid w → Calls Tryd.prog 13 #[.int .u64 n] w fun e w' => e = .returned (.tuple #[.agg (cellsP (decP n)), .int .u16 (decE n)]) ∧ Below w.heap.size w w'
  enc : ∀ (p : Pt) (w : World), InP p → Laid w → Calls Tryd.prog 14 #[.agg (cellsP p)] w fun e w' => e = .returned (.tuple #[.int .u64 (encW p), .int .u16 (encE p)]) ∧ Below w.heap.size w w'
  words : ∀ (p : Pt) (w : World), OkP p → Laid w → Calls Tryd.prog 15 #[.agg (cellsP p)] w fun e w' => e = .returned (.tuple #[.int .i64 (wordN p), .int .u16 (wordE p)]) ∧ Below w.heap.size w w'
theorem bseq' {a b c : World} (h : Below a.heap.size a b) (k : Below b.heap.size b c) : Below a.heap.size a c := h.trans (k.mono h.size)
theorem okp_in {p : Pt} (h : OkP p) : InP p := by
  unfold InP I64
  rcases h with e | ⟨e, h1, h2, h3, h4, h5, h6, h7, h8⟩ | ⟨e, h1, h2, h3, h4, h5, h6, h7⟩ | ⟨e, h1, h2, h3, h4, h5, h6⟩
  · rw [e]; decide
  · omega
  · omega
  · omega
theorem wordE_bd (p : Pt) : wordE p = 0 ∨ wordE p = 23 := by
  unfold wordE
  repeat' split
  all_goals simp

/-- a box of a pointer -/
def PBox (w : World) (g : Nat) (p : Pt) : Prop := w.heap[g]? = some (.cells (cellsP p) 24 (0, 0))
theorem PBox.new (w : World) (p : Pt) : PBox (w.alloc (.cells (cellsP p) 24)) w.heap.size p := by unfold PBox; rw [blk_alloc_new]
theorem PBox.lt {w : World} {g : Nat} {p : Pt} (h : PBox w g p) : g < w.heap.size := (Array.getElem?_eq_some_iff.1 h).1
theorem PBox.on {w w' : World} {g : Nat} {p : Pt} (h : PBox w g p) (hB : Below w.heap.size w w') : PBox w' g p := (hB.block g h.lt).trans h
theorem PBox.cells {w : World} {g : Nat} {p : Pt} (h : PBox w g p) : w.cell? ⟨g, 0, none⟩ = some (.int .i64 p.kind) ∧ w.cell? ⟨g, 1, none⟩ = some (.int .i64 p.off) ∧ w.cell? ⟨g, 2, none⟩ = some (.int .i64 p.data) ∧ w.cell? ⟨g, 3, none⟩ = some (.int .i64 p.ptrs) ∧ w.cell? ⟨g, 4, none⟩ = some (.int .i64 p.size) ∧ w.cell? ⟨g, 5, none⟩ = some (.int .i64 p.count) ∧ w.cell? ⟨g, 6, none⟩ = some (.int .i64 p.seg) ∧ w.cell? ⟨g, 7, none⟩ = some (.bool p.dbl) := by
  unfold PBox at h
  simp [World.cell?, h, cellsP]

end Go.Proofs.YtknmbohokmeidaaDoor
