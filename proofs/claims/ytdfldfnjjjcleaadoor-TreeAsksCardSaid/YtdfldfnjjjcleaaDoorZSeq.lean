/-
  Layer 8: what stays while words are laid; a range over a method value whose rounds never stop it.
-/
import Derived.RangeFuncNested
import Derived.RangeFuncBound
import Derived.RangeFuncCalls
import Derived.RangeFuncLeaves
import Derived.RangeFuncBox
import Derived.Test.YtdfldfnjjjcleaaDoorZBuA
import Derived.Test.YtdfldfnjjjcleaaDoorZCut
import Derived.Shelf.Abstract
import Derived.Shelf.RegionOpen
import Derived.WalkKit
import Derived.OwnWalkIn
import Derived.TacticsInMore
import Derived.LoopNIn
import Derived.LoopIn
import Derived.RegionIn
import Derived.Stop.RegionWithIn
import Derived.Test.YtdfldfnjjjcleaaDoorZWordGet
import Derived.Maps.OwnIn

namespace Go.Proofs.YtdfldfnjjjcleaaDoor
open Go.RowKit Go.Deep

/-- nothing but rows of words and boxes of slices of words -/
def plainO : Obj → Bool
  | .cells _ t _ => decide (t ≠ 34) && decide (t ≠ 53)
  | _ => true
/-- all else stays, but one record of a loop -/
structure KeepR (base : Nat) (lp : Option Nat) (W W' : World) : Prop where
  below : Below base W W'
  same : ∀ k o, some k ≠ lp → W.heap[k]? = some o → plainO o = true → W'.heap[k]? = some o
theorem KeepR.refl (base : Nat) (lp : Option Nat) (W : World) : KeepR base lp W W := ⟨Below.refl _ _, fun _ _ _ h _ => h⟩
theorem KeepR.trans {base : Nat} {lp : Option Nat} {A B C : World} (h : KeepR base lp A B) (k : KeepR base lp B C) : KeepR base lp A C :=
  ⟨h.below.trans k.below, fun i o hi ho hp => k.same i o hi (h.same i o hi ho hp) hp⟩
theorem KeepR.grown {base : Nat} {lp : Option Nat} {A B C : World} {row : Option Nat} (h : KeepR base lp A B) (hg : B.grownBy C row) (hb : base ≤ B.heap.size) (hr : ∀ r, row = some r → base ≤ r ∧ (some r = lp ∨ ∀ o, B.heap[r]? = some o → plainO o = false)) : KeepR base lp A C :=
  ⟨h.below.grown hg hb (fun k e => (hr k e).1), fun k o hk ho hp => by
    have h1 := h.same k o hk ho hp
    refine (hg.block k (Array.getElem?_eq_some_iff.1 h1).1 (fun e => ?_)).trans h1
    rcases (hr k e.symm).2 with e2 | h2
    · exact hk e2
    · rw [h2 o h1] at hp
      cases hp⟩
theorem KeepR.alloc {base : Nat} {lp : Option Nat} {A B : World} (h : KeepR base lp A B) (hb : base ≤ B.heap.size) (o : Obj) : KeepR base lp A (B.alloc o) := h.grown (World.grownBy_alloc B o none) hb (fun r e => by cases e)
theorem KeepR.drew {base : Nat} {lp : Option Nat} {A B : World} (h : KeepR base lp A B) : KeepR base lp A B.drew := ⟨h.below.drew, h.same⟩
theorem KeepR.put {base l : Nat} {A B : World} (h : KeepR base (some l) A B) (hb : base ≤ l) (hl : l < B.heap.size) (o : Obj) : KeepR base (some l) A (B.putObj l o) :=
  h.grown (grownBy_putObj' B l o) (by omega) (fun r e => by cases e; exact ⟨hb, .inl rfl⟩)
/-- a block that was laid later is turned -/
theorem KeepR.late {base : Nat} {lp : Option Nat} {A B C : World} {row : Option Nat} (h : KeepR base lp A B) (hg : B.grownBy C row) (hb : base ≤ A.heap.size) (hr : ∀ r, row = some r → A.heap.size ≤ r) : KeepR base lp A C :=
  ⟨h.below.grown hg (by have := h.below.size; omega) (fun k e => by have := hr k e; omega), fun k o hk ho hp => by
    have h1 := h.same k o hk ho hp
    refine (hg.block k (Array.getElem?_eq_some_iff.1 h1).1 (fun e => ?_)).trans h1
    have := hr k e.symm
    have := (Array.getElem?_eq_some_iff.1 ho).1
    omega⟩
theorem KeepR.own {β : Type} {base B : Nat} {lp : Option Nat} {A : World} (hb : base ≤ A.heap.size) (hB : A.heap.size ≤ B) : OwnFrom B (fun (_ : β) W => KeepR base lp A W) :=
  fun _ _ _ _ h hg hr => h.late hg hb (fun r e => by have := (hr r e).1; omega)
end Go.Proofs.YtdfldfnjjjcleaaDoor

namespace Go.Proofs.YtdfldfnjjjcleaaDoor
open Go.RowKit Go.Shelf

attribute [local go_sem] Oper.semAt_some

/-- what a round keeps: all below n₀, and the two boxes -/
def KeepC (n₀ B1 B2 : Nat) (W W' : World) : Prop := Below n₀ W W' ∧ W'.heap[B1]? = W.heap[B1]? ∧ W'.heap[B2]? = W.heap[B2]?
theorem KeepC.trans {n₀ B1 B2 : Nat} {A B C : World} (h : KeepC n₀ B1 B2 A B) (k : KeepC n₀ B1 B2 B C) : KeepC n₀ B1 B2 A C := ⟨h.1.trans k.1, k.2.1.trans h.2.1, k.2.2.trans h.2.2⟩
theorem KeepC.put {n₀ B1 B2 : Nat} {w : World} (hn : n₀ ≤ w.heap.size) (h1 : B1 < w.heap.size) (h2 : B2 < w.heap.size) (W : World) (l : Nat) (o o' : Obj) (hl : w.heap.size ≤ l) (ho : W.heap[l]? = some o) (c1 : o.isCells = false) (c2 : o.isWalk = false) : KeepC n₀ B1 B2 W (W.putObj l o') :=
  ⟨belowK_b hn W l o o' hl ho c1 c2, World.putObj_heap_other (by omega), World.putObj_heap_other (by omega)⟩
theorem KeepC.drew {n₀ B1 B2 : Nat} {A B : World} (h : KeepC n₀ B1 B2 A B) : KeepC n₀ B1 B2 A B.drew := ⟨h.1.drew, h.2.1, h.2.2⟩
end Go.Proofs.YtdfldfnjjjcleaaDoor

namespace Go.Proofs.YtdfldfnjjjcleaaDoor
open Go.RowKit Go.Shelf

attribute [local go_sem] Oper.semAt_some

def wordB (bs : List Int) (j : Nat) : Int := getV ((bs.drop (8 * j)).take 8)
theorem wordsB_eq (bs : List Int) : wordsB bs = (List.range ((bs.length + 7) / 8)).map (wordB bs) := rfl

theorem KeepR.new {base : Nat} {lp : Option Nat} {A B C : World} (h : KeepR base lp A B) (hb : base ≤ B.heap.size) (k : Below B.heap.size B C) : KeepR base lp A C := h.grown ⟨k.os, k.tape, k.output, k.size, fun j hj _ => k.block j hj⟩ hb (fun r e => by cases (e : (none : Option Nat) = some r))
theorem own_cells {w : World} {base e n g : Nat} {v : Value} {xs : List Value} (h : w.ownsRow base e 1 v n xs) (hg : v.ownBlock = some g) : ∃ cur, w.heap[g]? = some (.cells cur e (0, 0)) ∧ base ≤ g := by
  rcases h.2 with ⟨rfl, _⟩ | ⟨g1, c, cur, rfl, hb, hh, _⟩
  · simp [Value.ownBlock] at hg
  · simp only [Value.ownBlock, Option.some.injEq] at hg
    subst hg
    exact ⟨cur, hh, hb⟩
end Go.Proofs.YtdfldfnjjjcleaaDoor
