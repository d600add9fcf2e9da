/-
  word.Get: bytes are gone through backwards by slices.Backward (a range over a function). The iterator's contract, and Get's: of a row of bytes it returns the number whose bytes the first eight are, and writes nothing that was there.
-/
import Derived.RangeFuncNested
import Derived.RangeFuncBound
import Derived.RangeFuncCalls
import Derived.RangeFuncLeaves
import Derived.RangeFuncBox
import Derived.Shelf.Abstract
import Derived.Shelf.RegionOpen
import Derived.WalkKit
import Derived.OwnWalkIn
import Derived.TacticsInMore
import Derived.LoopNIn
import Derived.LoopIn
import Derived.Test.YtdfldfnjjjcleaaDoorZWord

namespace Go.Proofs.YtdfldfnjjjcleaaDoor
open Go.RowKit Go.Shelf

attribute [local go_sem] Oper.semAt_some

/-- what has come when k rounds are over: from the last index down -/
def back (l : List Int) (k : Nat) : List (Int × Int) := (List.range k).map (fun (j : Nat) => ((l.length : Int) - 1 - j, l[l.length - 1 - j]?.getD 0))
theorem back_succ (l : List Int) (k : Nat) : back l (k + 1) = back l k ++ [((l.length : Int) - 1 - k, l[l.length - 1 - k]?.getD 0)] := by simp [back, List.range_succ]
theorem back_length (l : List Int) (k : Nat) : (back l k).length = k := by simp [back]

/-- what a round that goes on keeps: all below n₀, and the box that has the slice -/
def KeepsBox (n₀ Bs : Nat) (W W' : World) : Prop := Below n₀ W W' ∧ ∀ v, W.cell? ⟨Bs, 0, none⟩ = some v → W'.cell? ⟨Bs, 0, none⟩ = some v
theorem KeepsBox.trans {n₀ Bs : Nat} {A B C : World} (h : KeepsBox n₀ Bs A B) (k : KeepsBox n₀ Bs B C) : KeepsBox n₀ Bs A C := ⟨h.1.trans k.1, fun v hv => k.2 v (h.2 v hv)⟩
theorem KeepsBox.put {n₀ Bs : Nat} {w : World} (hn : n₀ ≤ w.heap.size) (W : World) (l : Nat) (o o' : Obj) (hl : w.heap.size ≤ l) (ho : W.heap[l]? = some o) (h1 : o.isCells = false) (h2 : o.isWalk = false) : KeepsBox n₀ Bs W (W.putObj l o') :=
  ⟨belowK_b hn W l o o' hl ho h1 h2, fun _ hv => cell_kept hv (grownBy_putObj' _ l o') (fun r e => by cases e; exact ⟨_, ho, h1⟩)⟩

/-- a round of Get, as the walk writes it -/
def gstep (acc x : Int) : Int := bits BinOp.or IntKind.u64 (IntKind.u64.wrap (acc * 256)) (IntKind.u64.wrap x)

/-- what Get's cell holds when so many have come -/
def gfold (pre : List (Int × Int)) : Int := pre.foldl (fun a x => gstep a x.2) 0
theorem gfold_snoc (pre : List (Int × Int)) (x : Int × Int) : gfold (pre ++ [x]) = gstep (gfold pre) x.2 := by simp [gfold]

theorem rows2 {w : World} {A : Option Addr} {l : List Int} {o o' : Obj}
    (hr : 0 < l.length → ∃ b off, A = some ⟨b, off, none⟩ ∧ b < w.heap.size ∧ ∀ j, j < l.length → w.cell? ⟨b, off + j, none⟩ = some (.int .u8 (l[j]?.getD 0))) :
    0 < l.length → ∃ b off, A = some ⟨b, off, none⟩ ∧ b < w.heap.size ∧ ∀ j, j < l.length → ((w.alloc o).alloc o').cell? ⟨b, off + j, none⟩ = some (.int .u8 (l[j]?.getD 0)) := fun hp => by
  obtain ⟨b, off, e, hb, hc⟩ := hr hp
  have hB : Below w.heap.size w ((w.alloc o).alloc o') := ((Below.refl _ w).alloc (Nat.le_refl _) _).alloc (by simp) _
  exact ⟨b, off, e, hb, fun j hj => (hB.cell (p := ⟨b, off + j, none⟩) hb).trans (hc j hj)⟩

/-! ### what it comes to -/
theorem gstep_eq {a x : Int} (h0 : 0 ≤ a) (h1 : a < 72057594037927936) (h2 : 0 ≤ x) (h3 : x ≤ 255) : gstep a x = 256 * a + x := by
  unfold gstep
  rw [IntKind.wrap_u64, IntKind.wrap_u64, Int.emod_eq_of_lt (by omega) (by omega), Int.emod_eq_of_lt (by omega) (by omega), u64_or _ _ (by omega) (by omega) (by omega) (by omega), nat_join8 _ _ (by omega) (by omega)]
  omega
theorem gfold_back {l : List Int} (hl : AllB l) (h8 : l.length ≤ 8) : ∀ k, k ≤ l.length → gfold (back l k) = getV (l.drop (l.length - k)) := by
  intro k
  induction k with
  | zero => intro _; simp [back, gfold, getV]
  | succ k ih =>
    intro hk
    have e : l.length - (k + 1) = l.length - 1 - k := by omega
    have e2 : l.length - 1 - k + 1 = l.length - k := by omega
    rw [back_succ, gfold_snoc, ih (by omega), e, getV_drop (k := l.length - 1 - k) (by omega), e2]
    have hx := hl.at_ (l.length - 1 - k)
    exact gstep_eq (getV_nonneg (hl.drop _)) (getV_lt7 (hl.drop _) (by simp; omega)) hx.1 hx.2

end Go.Proofs.YtdfldfnjjjcleaaDoor
