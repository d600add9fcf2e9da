/-
  Layer 9, the landed package: landed, by one word.
-/
import Derived.Test.YtmmlfnblodfjbaaGreatDoorZRdA
import Derived.Deep.RegionHeld3

namespace Go.Proofs.YtmmlfnblodfjbaaGreatDoor
open Go.RowKit Go.Deep

/-- a target that is handed back -/
def ObR (t : Ob × Int) (w : World) (e : Ending) (w' : World) : Prop := e = .returned (.tuple #[.agg (cellsO t.1), .int .u16 t.2]) ∧ Below w.heap.size w w'

/-- the box of a pointer and an object's -/
theorem two_boxes9 (w : World) (p : Pt) (o : Ob) : PBox ((w.alloc (.cells (cellsP p) 70)).alloc (.cells (cellsO o) 129)) w.heap.size p ∧ OBox ((w.alloc (.cells (cellsP p) 70)).alloc (.cells (cellsO o) 129)) (w.heap.size + 1) o ∧ Below w.heap.size w ((w.alloc (.cells (cellsP p) 70)).alloc (.cells (cellsO o) 129)) := by
  refine ⟨(PBox.new w p).on ((Below.refl _ _).alloc (Nat.le_refl _) _), ?_, ((Below.refl _ _).alloc (Nat.le_refl _) _).alloc (by simp) _⟩
  have := OBox.new (w.alloc (.cells (cellsP p) 70)) o
  rwa [World.size_alloc] at this

end Go.Proofs.YtmmlfnblodfjbaaGreatDoor

namespace Go.Proofs.YtmmlfnblodfjbaaGreatDoor
open Go.RowKit Go.Deep

end Go.Proofs.YtmmlfnblodfjbaaGreatDoor

namespace Go.Proofs.YtmmlfnblodfjbaaGreatDoor
open Go.RowKit Go.Deep

theorem okp_off {p : Pt} (hp : OkP p) : -536870912 ≤ p.off ∧ p.off < 536870912 := by
  rcases hp with e | ⟨_, h, _⟩ | ⟨_, h, _⟩ | ⟨_, h, _⟩
  · rw [e]; decide
  · exact h
  · exact h
  · omega
end Go.Proofs.YtmmlfnblodfjbaaGreatDoor

namespace Go.Proofs.YtmmlfnblodfjbaaGreatDoor
open Go.RowKit Go.Deep

theorem sr_in {sr : Sr} (h : sr.Good) (g a : Int) (hk : (targetO sr g a).1.kind ≠ 0) (h0 : (targetO sr g a).2 = 0) : OkQ (ptrO (targetO sr g a).1) := (target_ok h g a h0 hk).1
theorem near_in64 (p : Pt) (a : Int) : In64 (nearA p a) := by
  unfold nearA In64
  split
  · assumption
  · omega
theorem landed_in {sr : Sr} (h : sr.Good) (f : Pt) (hf : OkP f) : In64 (landedO sr f).1.seg ∧ In64 (landedO sr f).1.at_ := by
  have hz : In64 Ob.zero.seg ∧ In64 Ob.zero.at_ := by unfold In64 Ob.zero; decide
  have hs : ∀ p : Pt, OkP p → In64 p.seg ∧ In64 p.off := by
    intro p hp
    unfold In64
    rcases hp with rfl | ⟨h1, h2, h3, h4, h5, h6, h7, h8, -⟩ | ⟨h1, h2, h3, h4, h5, h6, h7, h8⟩ | ⟨h1, h2, h3, h4, h5, h6, h7⟩
    · decide
    · omega
    · omega
    · omega
  unfold landedO landed1 landed2
  repeat' split
  all_goals first | exact hz | exact ⟨(hs _ hf).1, near_in64 _ _⟩ | exact hs _ (ptS_ok h _ _)
theorem target_in {sr : Sr} (h : sr.Good) (g a : Int) (hg : In64 g) : In64 (targetO sr g a).1.seg ∧ In64 (targetO sr g a).1.at_ := by
  have hz : In64 Ob.zero.seg ∧ In64 Ob.zero.at_ := by unfold In64 Ob.zero; decide
  unfold targetO
  by_cases h1 : ptE sr g a ≠ 0
  · rw [if_pos h1]; exact hz
  rw [if_neg h1]
  by_cases h2 : (ptS sr g a).kind = 0
  · rw [if_pos h2]; exact hz
  rw [if_neg h2]
  by_cases h3 : (ptS sr g a).kind = 3
  · rw [if_pos h3]; exact landed_in h _ (ptS_ok h g a)
  · rw [if_neg h3]; exact ⟨hg, near_in64 _ _⟩

end Go.Proofs.YtmmlfnblodfjbaaGreatDoor

namespace Go.Proofs.YtmmlfnblodfjbaaGreatDoor
open Go.RowKit Go.Deep

/-- the box of a thing and another one's -/
theorem two_objs (w : World) (p o : Ob) : OBox ((w.alloc (.cells (cellsO p) 129)).alloc (.cells (cellsO o) 129)) w.heap.size p ∧ OBox ((w.alloc (.cells (cellsO p) 129)).alloc (.cells (cellsO o) 129)) (w.heap.size + 1) o ∧ Below w.heap.size w ((w.alloc (.cells (cellsO p) 129)).alloc (.cells (cellsO o) 129)) := by
  refine ⟨(OBox.new w p).on ((Below.refl _ _).alloc (Nat.le_refl _) _), ?_, ((Below.refl _ _).alloc (Nat.le_refl _) _).alloc (by simp) _⟩
  have := OBox.new (w.alloc (.cells (cellsO p) 129)) o
  rwa [World.size_alloc] at this

end Go.Proofs.YtmmlfnblodfjbaaGreatDoor
