/-
  Layer 9, the landed package: Follow over a source that only gives words, as that over one that notes nothing.
-/
import Derived.Test.YtmmlfnblodfjbaaGreatDoorZVnC

namespace Go.Proofs.YtmmlfnblodfjbaaGreatDoor
open Go.RowKit Go.Deep

def NoB (w0 : World) : Bs := ⟨w0.heap.size, fun _ => False, id, id, id, id, id, id, id⟩
def PuK (w0 : World) (_ : List (Int × Int)) (W : World) : Prop := Below w0.heap.size w0 W
theorem pureN {K : World → Prop} {s : Value} {sr : Sr} (H : SrcOK K s sr) (w0 : World) (hK : K w0) : SrcN (NoB w0) (PuK w0) s sr where
  good := H.good
  on := fun h hS => Below.sil (n0 := NoB w0) h (Nat.le_refl _) hS
  le := fun h => h.size
  laid := fun h => H.laid (H.on hK h)
  form := H.form
  word := fun l g a w _ hW hg ha => (H.word g a w (H.on hK hW) hg ha).mono (fun e w' hh => by
    obtain ⟨he, hB⟩ := hh
    exact ⟨l ++ [(g, a)], he, fun _ => rfl, ⟨⟨hB.os, hB.tape, hB.output, hB.size, fun i o _ ho _ => (hB.block i (lt_of_blk ho)).trans ho⟩, fun X hS => Below.sil (n0 := NoB w0) (hW.trans (hB.mono hW.size)) (Nat.le_refl _) hS, hW.size⟩⟩)
  sizes := fun l w hW => H.sizes w (H.on hK hW)
theorem follow_anyP {K : World → Prop} {s : Value} {sr : Sr} (H : SrcOK K s sr) (g a : Int) (w : World) (hK : K w) (hg : In64 g) (ha : In64 a) :
    Calls Tryz.prog 99 #[s, .int .i64 g, .int .i64 a] w (ObR (followO sr g a) w) :=
  (follow_anyN (pureN H w hK) [] (by simp) g a w (Below.refl _ _) hg ha).mono (fun e w' hh => by
    obtain ⟨l', he, _, hJ⟩ := hh
    exact ⟨he, hJ.kk⟩)

end Go.Proofs.YtmmlfnblodfjbaaGreatDoor
