/-
  A range over a function whose rounds are told something that lies in memory: what each side may turn, and what it keeps. No program is named here.
-/
import Derived.RangeFuncNested
import Derived.RangeFuncBound
import Derived.RangeFuncCalls
import Derived.RangeFuncLeaves
import Derived.Test.YtmmlfnblodfjbaaGreatDoorZMem

namespace Go.Proofs.YtmmlfnblodfjbaaGreatDoor
open Go.RowKit

/-- of what there was, only the blocks of X are turned -/
structure Mv (X : Nat → Prop) (W W' : World) : Prop where
  os : W'.os = W.os
  tape : W'.tape = W.tape
  output : W'.output = W.output
  size : W.heap.size ≤ W'.heap.size
  same : ∀ b, b < W.heap.size → ¬ X b → W'.heap[b]? = W.heap[b]?
theorem Mv.refl (X : Nat → Prop) (W : World) : Mv X W W := ⟨rfl, rfl, rfl, Nat.le_refl _, fun _ _ _ => rfl⟩
theorem Mv.trans {X Y : Nat → Prop} {A B C : World} (h : Mv X A B) (k : Mv Y B C) (hXY : ∀ b, b < A.heap.size → Y b → X b) : Mv X A C :=
  ⟨k.os.trans h.os, k.tape.trans h.tape, k.output.trans h.output, Nat.le_trans h.size k.size, fun b hb hx => (k.same b (Nat.lt_of_lt_of_le hb h.size) (fun hy => hx (hXY b hb hy))).trans (h.same b hb hx)⟩
theorem Mv.mono {X Y : Nat → Prop} {A B : World} (h : Mv X A B) (hXY : ∀ b, b < A.heap.size → X b → Y b) : Mv Y A B :=
  ⟨h.os, h.tape, h.output, h.size, fun b hb hy => h.same b hb (fun hx => hy (hXY b hb hx))⟩
theorem Mv.below {X : Nat → Prop} {A B : World} (h : Mv X A B) {n : Nat} (hn : n ≤ A.heap.size) (hX : ∀ b, X b → n ≤ b) : Below n A B :=
  ⟨h.os, h.tape, h.output, h.size, fun b hb => h.same b (by omega) (fun hx => by have := hX b hx; omega)⟩
theorem Mv.of_below {n : Nat} {A B : World} (h : Below n A B) : Mv (fun b => n ≤ b) A B := ⟨h.os, h.tape, h.output, h.size, fun b _ hb => h.block b (by omega)⟩
theorem Mv.of_grown {A B : World} {row : Option Nat} (h : A.grownBy B row) : Mv (fun b => row = some b) A B := ⟨h.os, h.tape, h.output, h.size, fun b hb hx => h.block b hb (fun e => hx e.symm)⟩
variable {F : Fence} {n : Nat} {P : Program}

end Go.Proofs.YtmmlfnblodfjbaaGreatDoor
