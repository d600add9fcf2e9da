/-
  Layer 8: the document's builder: pointers, near and far.
-/
import Derived.Test.YtdfldfnjjjcleaaDoorZBuRefA
import Derived.Test.YtdfldfnjjjcleaaDoorZPtr
import Derived.Test.YtdfldfnjjjcleaaDoorZMem

namespace Go.Proofs.YtdfldfnjjjcleaaDoor
open Go.RowKit Go.Deep

set_option maxRecDepth 100000 in
set_option maxHeartbeats 1000000 in
theorem rnear_any (k z : Int) (ws bs : List Int) (ks : List Tr) (v : Value) (off : Int) (w : World) (h : TrV w w.heap.size (.mk k z ws bs ks) v) :
    Calls Tryd.prog 61 #[v, .int .i64 off] w fun e w' => e = .returned (.int .u64 (nearW (.mk k z ws bs ks) off)) ∧ Below w.heap.size w w' := by
  obtain ⟨A1, c1, A2, c2, A3, c3, rfl, hg, -, -, hk3, -⟩ := h.parts
  obtain ⟨g1, g2, g3, g4, g5, -⟩ := hg
  clear h
  have hn : nearW (.mk k z ws bs ks) off = encW (if k = 2 then ⟨2, off, 0, 0, z, (ws.length : Int) + ks.length + bs.length, 0, false⟩ else ⟨k, off, ws.length, ks.length, 0, 0, 0, false⟩) := rfl
  generalize nearW (.mk k z ws bs ks) off = N at *
  generalize ws.length = nw at *
  generalize bs.length = nb at *
  generalize ks.length = nk at *
  have HEnc := Lib.hid (fun p X => renc_any p X)
  obtain ⟨W1, hW1⟩ : ∃ W1, W1 = w.alloc (.cells (cellsT k z (.slice A1 nw c1) (.slice A2 nb c2) (.slice A3 nk c3)) 37) := ⟨_, rfl⟩
  obtain ⟨W2, hW2⟩ : ∃ W2, W2 = W1.alloc (.cells (cellsP ⟨k, off, nw, nk, 0, 0, 0, false⟩) 69) := ⟨_, rfl⟩
  have hz1 : W1.heap.size = w.heap.size + 1 := by rw [hW1]; simp
  have hB1 : Below w.heap.size w W1 := by rw [hW1]; exact (Below.refl _ _).alloc (Nat.le_refl _) _
  have hB2 : Below w.heap.size w W2 := by rw [hW2]; exact hB1.alloc (by omega) _
  have hT1 : TBox W1 w.heap.size k z (.slice A1 nw c1) (.slice A2 nb c2) (.slice A3 nk c3) := by rw [hW1]; exact TBox.new _ _ _ _ _ _
  have hT2 := hT1.on (show Below W1.heap.size W1 W2 by rw [hW2]; exact (Below.refl _ _).alloc (Nat.le_refl _) _)
  have hP2 : PBox W2 (w.heap.size + 1) ⟨k, off, nw, nk, 0, 0, 0, false⟩ := by rw [hW2, ← hz1]; exact PBox.new _ _
  have HB2 := Lib.hid hB2
  have HP2 := Lib.hid hP2
  obtain ⟨d0, d1, d2, d3, d4⟩ := hT2.cells
  unfold cellsT at hW1 ⊢
  unfold cellsP at hW2
  rw [hW1] at hW2
  clear hT1 hT2 hB1 hB2 hP2 hz1 hW1 W1
  by_cases hk : k = 2
  · subst hk
    rw [if_pos rfl] at hn
    obtain ⟨p0, p1, p2, p3, p4, p5, p6, p7⟩ := HP2.out.cells
    obtain ⟨f0, f1, f2, f3, f4, f5, f6, f7⟩ := HP2.out.frozens
    obtain ⟨W3, hW3⟩ : ∃ W3, W3 = (((((((W2.setCell ⟨w.heap.size + 1, 0, none⟩ (.int .i64 2)).setCell ⟨w.heap.size + 1, 1, none⟩ (.int .i64 off)).setCell ⟨w.heap.size + 1, 2, none⟩ (.int .i64 0)).setCell ⟨w.heap.size + 1, 3, none⟩ (.int .i64 0)).setCell ⟨w.heap.size + 1, 4, none⟩ (.int .i64 z)).setCell ⟨w.heap.size + 1, 5, none⟩ (.int .i64 ((nw : Int) + nk + nb))).setCell ⟨w.heap.size + 1, 6, none⟩ (.int .i64 0)).setCell ⟨w.heap.size + 1, 7, none⟩ (.bool false) := ⟨_, rfl⟩
    have hP3 : PBox W3 (w.heap.size + 1) ⟨2, off, 0, 0, z, (nw : Int) + nk + nb, 0, false⟩ := by rw [hW3]; exact HP2.out.set8 _ _ _ _ _ _ _ _
    have hB3 : Below w.heap.size w W3 := by
      rw [hW3]
      refine Below.setCell (p := ⟨w.heap.size + 1, 7, none⟩) ?_ (by show w.heap.size ≤ w.heap.size + 1; omega) _
      refine Below.setCell (p := ⟨w.heap.size + 1, 6, none⟩) ?_ (by show w.heap.size ≤ w.heap.size + 1; omega) _
      refine Below.setCell (p := ⟨w.heap.size + 1, 5, none⟩) ?_ (by show w.heap.size ≤ w.heap.size + 1; omega) _
      refine Below.setCell (p := ⟨w.heap.size + 1, 4, none⟩) ?_ (by show w.heap.size ≤ w.heap.size + 1; omega) _
      refine Below.setCell (p := ⟨w.heap.size + 1, 3, none⟩) ?_ (by show w.heap.size ≤ w.heap.size + 1; omega) _
      refine Below.setCell (p := ⟨w.heap.size + 1, 2, none⟩) ?_ (by show w.heap.size ≤ w.heap.size + 1; omega) _
      refine Below.setCell (p := ⟨w.heap.size + 1, 1, none⟩) ?_ (by show w.heap.size ≤ w.heap.size + 1; omega) _
      exact Below.setCell (p := ⟨w.heap.size + 1, 0, none⟩) HB2.out (by show w.heap.size ≤ w.heap.size + 1; omega) _
    have HP3 := Lib.hid hP3
    have HB3 := Lib.hid hB3
    have HE := Lib.hid (HEnc.out ⟨2, off, 0, 0, z, (nw : Int) + nk + nb, 0, false⟩ W3)
    rw [← hn] at HE
    unfold cellsP at HE
    clear hP3 hB3 hn
    go_enter Tryd.func61, Tryd.ntmps61
    go_upto_region 2 with fail
    rw [← hW2]
    clear hW2
    go_upto_region 4 with fail
    rw [← hW3]
    clear hW3 p0 p1 p2 p3 p4 p5 p6 p7 f0 f1 f2 f3 f4 f5 f6 f7 d0 d1 d2 d3 d4
    obtain ⟨p0, p1, p2, p3, p4, p5, p6, p7⟩ := HP3.out.cells
    go_wp2_with fail
    refine HE.out.mono ?_
    rintro e w4 ⟨rfl, hB4⟩
    have HB4 := Lib.hid (HB3.out.trans (hB4.mono (by have := HB3.out.size; omega)))
    clear hB4
    go_wp2_with fail
    go_ret
    exact ⟨rfl, HB4.out⟩
  · rw [if_neg hk] at hn
    have hk2 : (k == 2) = false := beq_eq_false_iff_ne.2 hk
    have HE := Lib.hid (HEnc.out ⟨k, off, nw, nk, 0, 0, 0, false⟩ W2)
    rw [← hn] at HE
    unfold cellsP at HE
    clear hn hk
    go_enter Tryd.func61, Tryd.ntmps61
    go_upto_region 2 with fail
    rw [← hW2]
    clear hW2
    obtain ⟨p0, p1, p2, p3, p4, p5, p6, p7⟩ := HP2.out.cells
    go_wp2_with fail
    refine HE.out.mono ?_
    rintro e w4 ⟨rfl, hB4⟩
    have HB4 := Lib.hid (HB2.out.trans (hB4.mono (by have := HB2.out.size; omega)))
    clear hB4
    go_wp2_with fail
    go_ret
    exact ⟨rfl, HB4.out⟩

set_option maxRecDepth 100000 in
theorem rfar_any (seg at_ : Nat) (w : World) :
    Calls Tryd.prog 63 #[.int .i64 seg, .int .i64 at_] w fun e w' => e = .returned (.int .u64 (farW seg at_)) ∧ Below w.heap.size w w' := by
  have HE := Lib.hid (renc_any ⟨3, at_, 0, 0, 0, 0, seg, false⟩ w)
  have hf : encW ⟨3, at_, 0, 0, 0, 0, seg, false⟩ = farW seg at_ := rfl
  rw [hf] at HE
  generalize farW seg at_ = N at *
  unfold cellsP at HE
  clear hf
  go_enter Tryd.func63, Tryd.ntmps63
  go_wp2_with fail
  refine HE.out.mono ?_
  rintro e w4 ⟨rfl, hB4⟩
  have HB4 := Lib.hid hB4
  clear hB4
  go_wp2_with fail
  go_ret
  exact ⟨rfl, HB4.out⟩

end Go.Proofs.YtdfldfnjjjcleaaDoor
