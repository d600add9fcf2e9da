/-
  A step of a region that draws its order: an operation that touches no memory is taken first, and the state behind it is laid out anew. No program is named here.
-/
import Derived.Deep.RegionWith
namespace Go.Proofs.Ythinhknfiaohlaa

theorem take_lit {P : Program} {md : Region.Mode} {ops : Array Oper} {Q : Exit → Act → World → Prop} {i : Nat} {oi : Oper} {v : Value} {fuel : Nat} {listed : Array Bool} {l l' : List Value} {df : List Deferred} {w : World} (d : Tmp)
    (hi : ops[i]? = some oi) (hd : oi.dst = some d) (hs : Region.noSelect ops = true) (hf : Region.free md ops listed i = true) (hr : (Region.ready md ops listed).contains i = true)
    (hQ : ∀ c a w, Q (.panic c) (a.put (some d) v) w → Q (.panic c) a w) (hw : Region.wanted oi (yielded ops l.toArray) = true) (hy : ∀ w, (execOp (Act.eval ⟨l.toArray, df⟩) oi).run P w = .ok (.value v) w)
    (hl : l.set d v = l') (h : wpAny P md ops Q fuel (listed.setIfInBounds i true) ⟨l'.toArray, df⟩ w) : wpAny P md ops Q (fuel + 1) listed ⟨l.toArray, df⟩ w := by
  refine wpAny_take hi hs hf hr (by rw [hd]; exact hQ) (Or.inl ⟨hw, hy⟩) ?_
  rw [hd]
  subst hl
  simpa [Act.put] using h

end Go.Proofs.Ythinhknfiaohlaa
