/-
  Layer 7, the landed package: Cut (word by word off the bytes; each segment of memory of its own).
-/
import Derived.Test.YtdfldfnjjjcleaaDoorZCut
import Derived.Test.YtdfldfnjjjcleaaDoorZWordGet
import Derived.Deep.RegionLaw
import Derived.WalkMore

namespace Go.Proofs.YtdfldfnjjjcleaaDoor
open Go.RowKit Go.Deep

theorem step_app {P : Program} {ops : Array Oper} {o : Oper} {a : Act} {w w' : World} {K : Act → World → Prop} {Q : Exit → Act → World → Prop} {E : Prop} {s x : Operand} {t : TypeId} {v u v' : Value}
    (hrun : (Builtin.append_ #[t, t] o.type #[v, u]).run P w = .ok v' w') (hg : o.guard = none) (hop : o.op = Op.call { callee := Callee.builtin Builtin.append, args := #[s, x], argTypes := #[t, t] }) (hs : a.eval s = v) (hx : a.eval x = u) (hK : K (a.put o.dst v') w') :
    if Region.wanted o (yielded ops a.tmps) = true then Oper.wp P o a w K Q else E := by
  have hw : Region.wanted o (yielded ops a.tmps) = true := by simp [Region.wanted, hg]
  rw [if_pos hw]
  unfold Oper.wp
  simp [execOp, hop, resolve, invoke, builtin, hs, hx, hrun, Result.andThen]
  exact hK

def sLen : Value → Nat
  | .slice _ n _ => n
  | _ => 0
/-- b[8:] -/
theorem Bytes.past8 {w : World} {B b off len cap : Nat} {l : List Int} (h : Bytes w B (.slice (some ⟨b, off, none⟩) len cap) l) (hlen : l.length = len) (hp : 8 ≤ len) : Bytes w B (.slice (if cap = 8 then some ⟨b, off, none⟩ else some ⟨b, off + 8, none⟩) (len - 8) (cap - 8)) (l.drop 8) := by
  obtain ⟨A, c, e, hc, hm, hr⟩ := h
  rw [hlen] at e hc
  cases e
  have hl : (l.drop 8).length = len - 8 := by rw [List.length_drop, hlen]
  refine ⟨_, _, by rw [hl], by omega, by omega, fun h1 => ?_⟩
  rw [hl] at h1
  obtain ⟨b', off', ea, hlt, hcell⟩ := hr (by omega)
  cases ea
  rw [if_neg (by omega)]
  refine ⟨b, off + 8, rfl, hlt, fun j hj => ?_⟩
  rw [hl] at hj
  have := hcell (8 + j) (by omega)
  rw [Nat.add_assoc, this, List.getElem?_drop]

/-- what the call's own row of segments holds when t of them are cut -/
def CutV (w : World) (G : Nat) (l bs : List Int) (t : Nat) (xs : List Value) : Prop :=
  xs.length = l.length ∧ RowV w G 34 xs ∧ (∀ j, j < t → OwnU w (G + 1) (xs[j]?.getD undef) (cutSeg bs (l.take j).sum.toNat (l[j]?.getD 0).toNat)) ∧ ∀ j, t ≤ j → j < l.length → xs[j]?.getD undef = .slice none 0 0
theorem OwnU.form {w : World} {base m : Nat} {v : Value} {xs : List Int} (h : OwnU w base v xs) (hm : xs.length = m) : ∃ A c, v = .slice A m c := by
  obtain ⟨A, c, e, _⟩ := OwnN.numS (q := .u64) (t := 53) h
  exact ⟨A, c, by rw [e, hm]⟩
theorem below_drew_in {a b : World} (h : Below a.drew.heap.size a.drew b) : Below a.heap.size a b := ⟨h.os, h.tape, h.output, h.size, h.block⟩
theorem grown_below {a b : World} (row : Option Nat) (h : Below a.heap.size a b) : a.grownBy b row := ⟨h.os, h.tape, h.output, h.size, fun j hj _ => h.block j hj⟩
theorem cut_step {w1 wx w2 w' : World} {G k ty : Nat} {s v' : Value} {o : Obj} {xs : List Value} {ys ys' : List Int} (hg : w1.grownBy wx (some G)) (hB : Below wx.heap.size wx w2) (ho : OwnU wx w1.heap.size s ys) (hg' : (w2.alloc o).grownBy w' s.ownBlock) (ho' : OwnU w' w1.heap.size v' ys') (hG : G < w1.heap.size) (hr : RowV wx G ty (xs.set k s)) :
    RowV w' G ty (xs.set k s) ∧ RowV (w'.setCell ⟨G, k, none⟩ v') G ty (xs.set k v') ∧ OwnU (w'.setCell ⟨G, k, none⟩ v') w1.heap.size v' ys' ∧ w1.grownBy (w'.setCell ⟨G, k, none⟩ v') (some G) ∧ Below G wx (w'.setCell ⟨G, k, none⟩ v') := by
  have hsz := hg.size
  have hB2 : Below wx.heap.size wx (w2.alloc o) := hB.alloc hB.size o
  have hs2 := hB2.size
  have hown : ∀ k, s.ownBlock = some k → w1.heap.size ≤ k := fun k e => (World.ownsRow.lt ho k e).1
  have h1 : RowV w' G ty (xs.set k s) := (hr.below hB2 (by omega)).of_block (hg'.block G (by omega) (fun e => by have := hown G e.symm; omega))
  refine ⟨h1, ?_, ?_, ?_, ?_⟩
  · have := h1.set k v'
    rw [List.set_set] at this
    exact this
  · exact own_kept2 ho' (grown_set _ _ _ _) (fun g hg3 e => by
      have := (World.ownsRow.lt ho' g hg3).1
      cases e
      omega)
  · refine grown_trans (b := w') ?_ (grown_set _ _ _ _)
    refine ⟨hg'.os.trans (hB2.os.trans hg.os), hg'.tape.trans (hB2.tape.trans hg.tape), hg'.output.trans (hB2.output.trans hg.output), Nat.le_trans hsz (Nat.le_trans hs2 hg'.size), fun j hj hne => ?_⟩
    exact ((hg'.block j (by omega) (fun e => by have := hown j e.symm; omega)).trans (hB2.block j (by omega))).trans (hg.block j hj hne)
  · have b1 : Below G wx (w2.alloc o) := hB2.mono (by omega)
    have b2 : Below G wx w' := b1.grown hg' (by omega) (fun k e => by have := hown k e; omega)
    exact b2.setCell (p := ⟨G, k, none⟩) (Nat.le_refl _) _

end Go.Proofs.YtdfldfnjjjcleaaDoor
