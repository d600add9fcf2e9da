/-
  Layer 10: the law TreeAsks: its walk.
-/
import Derived.Test.YtdfldfnjjjcleaaDoorZTeKnown
import Derived.Test.YtdfldfnjjjcleaaDoorZAsA
import Derived.Test.YtdfldfnjjjcleaaDoorZAsP
import Derived.Test.YtdfldfnjjjcleaaDoorZTcA
import Derived.Test.YtdfldfnjjjcleaaDoorZGenZ
import Derived.Test.YtdfldfnjjjcleaaDoorZRdPath
import Derived.Deep.RegionHeldLaw

namespace Go.Proofs.YtdfldfnjjjcleaaDoor
open Go.RowKit Go.Deep

set_option maxRecDepth 100000 in
set_option maxHeartbeats 8000000 in
theorem asks10_walk (c d : List Int) (vc vd : Value) (A : Option Addr) (n cp : Nat) (ps : List Int) (i most : Int) (q k : Nat) (w : World) (hc : Bytes w w.heap.size vc c) (hcb : AllB c) (hd : Bytes w w.heap.size vd d) (hdb : AllB d) (hs : NumS .i64 w w.heap.size (.slice A n cp) ps) (h64 : All64 ps) (hi : In64 i) (hq : q ≤ 255) (hk : k ≤ 255) (L : Laid w) :
    Calls Tryd.prog 4 #[vc, vd, .agg #[.slice A n cp, .int .i64 i], .int .i64 most, .int .u8 q, .int .u8 k] w fun e w' => e = .returned (.bool true) ∧ Below w.heap.size w w' := by
  have HK := Lib.hid (fun X (hX : Below w.heap.size w X) => known10_any X (L.on hX))
  have HTr := Lib.hid (fun X (hX : Below w.heap.size w X) => tree_all 6 (by omega) c vc X X.heap.size (Nat.le_refl _) (hc.on hX) hcb)
  have hdp : deepB (treeC 6 c).1 6 = true := (treeC_fine 6 c).1
  have HF := Lib.hid (deep_fine _ 6 hdp)
  have HDp := Lib.hid hdp
  have HPt0 := Lib.hid (fun X (hX : Below w.heap.size w X) => path9_any d vd q X (hd.on hX) hdb hq)
  have HSt := Lib.hid (stepsC_pos (c := d) (t := min d.length 6)).2
  have HPs := Lib.hid (And.intro hs (And.intro h64 hi))
  generalize (treeC 6 c).1 = x at *
  generalize (treeC 6 c).2 = rest at *
  generalize stepsC d (min d.length 6) = st at *
  obtain ⟨Ac, cc, rfl⟩ := hc.form rfl
  obtain ⟨Ad, cd, rfl⟩ := hd.form rfl
  generalize c.length = lc at *
  generalize d.length = ld at *
  obtain ⟨W1, hW1⟩ : ∃ W1, W1 = w.alloc (.cells #[.slice A n cp, .int .i64 i] 33) := ⟨_, rfl⟩
  have hB1 : Below w.heap.size w W1 := by rw [hW1]; exact (Below.refl _ _).alloc (Nat.le_refl _) _
  have HX1 : Hid (PaBox W1 w.heap.size (.slice A n cp) i) := Lib.hid (by rw [hW1]; unfold PaBox; exact blk_alloc_new _ _)
  have HB1 := Lib.hid hB1
  have hwk : IntKind.i64.wrap (k : Int) = (k : Int) := IntWalk.i64_in _ (by omega)
  have HWk := Lib.hid hwk
  clear hc hcb hd hdb hs h64 hi hq hk L hdp hB1 hwk
  obtain ⟨x0, x1⟩ := HX1.out.cells
  go_enter Tryd.func4, Tryd.ntmps4
  go_upto_region 1 with fail
  rw [← hW1]
  clear hW1
  by_cases hl : (lc : Int) > 200
  · go_wp2_with fail
    refine (HK.out W1 HB1.out).mono ?_
    rintro e w2 ⟨rfl, hB2⟩
    have HB2 := Lib.hid (bseq8 HB1.out hB2)
    clear hB2
    go_wp2_with fail
    go_ret
    exact ⟨rfl, HB2.out⟩
  · by_cases hn : (n : Int) > 100
    · go_wp2_with fail
      refine (HK.out W1 HB1.out).mono ?_
      rintro e w2 ⟨rfl, hB2⟩
      have HB2 := Lib.hid (bseq8 HB1.out hB2)
      clear hB2
      go_wp2_with fail
      go_ret
      exact ⟨rfl, HB2.out⟩
    · go_wp2_with fail
      refine (HK.out W1 HB1.out).mono ?_
      rintro e w1 ⟨rfl, hB1'⟩
      have HX2 := Lib.hid (HX1.out.on hB1' HX1.out.lt)
      have HB2 := Lib.hid (bseq8 HB1.out hB1')
      clear hB1' x0 x1
      go_wp2_with fail
      refine (HTr.out w1 HB2.out).mono ?_
      rintro e w2 ⟨x', y', rfl, hP1, hy1, hB3⟩
      obtain ⟨Ay, cy, rfl⟩ := hy1.form rfl
      obtain ⟨k2, z2, A1, n1, c1, A2, n2, c2, A3, n3, c3, rfl⟩ := hP1.parts
      unfold cellsT
      dsimp only
      generalize rest.length = nr at *
      obtain ⟨w3, hw3⟩ : ∃ w3, w3 = w2.alloc (.cells #[.int .i64 k2, .int .i64 z2, .slice A1 n1 c1, .slice A2 n2 c2, .slice A3 n3 c3] 37) := ⟨_, rfl⟩
      have hB4 : Below w2.heap.size w2 w3 := by rw [hw3]; exact (Below.refl _ _).alloc (Nat.le_refl _) _
      have HT3 : Hid (TBox w3 w2.heap.size k2 z2 (.slice A1 n1 c1) (.slice A2 n2 c2) (.slice A3 n3 c3)) := Lib.hid (by rw [hw3]; exact TBox.new _ _ _ _ _ _)
      have HB4 := Lib.hid (bseq8 HB2.out (bseq8 hB3 hB4))
      have HX4 := Lib.hid (HX2.out.on (bseq8 hB3 hB4) HX2.out.lt)
      have hV3 := (TrP.trV (fun b hb => hb.2) _ _ hP1).on hB4
      have HCo := Lib.hid (fun X (hX : Below w3.heap.size w3 X) => cost_any x _ X (TrP.mono (fun b hb => Nat.lt_of_lt_of_le hb.2 (bseq8 hB4 hX).size) _ _ (TrP.keep (fun b hb => (bseq8 hB4 hX).block b hb.2) _ _ hP1)) (by have := HF.out.2; omega))
      have HRc := Lib.hid (fun X (hX : Below w3.heap.size w3 X) => rcost10_any x 6 HDp.out _ X (hV3.on hX))
      have HA1 := Lib.hid (fun X (hX : Below w3.heap.size w3 X) => asks10_any x _ X A n cp ps i (hV3.on hX) HF.out.1 (HPs.out.1.on (bseq8 HB4.out hX)) HPs.out.2.1 HPs.out.2.2)
      have HA2 := Lib.hid (fun X (hX : Below w3.heap.size w3 X) A6 n6 c6 i6 (hs6 : NumS .i64 X X.heap.size (.slice A6 n6 c6) st) (hi6 : In64 i6) => asks10_any x _ X A6 n6 c6 st i6 (hV3.on hX) HF.out.1 hs6 HSt.out hi6)
      have HP1 := Lib.hid (fun X (hX : Below w3.heap.size w3 X) => lpaths10_any x _ most X (hV3.on hX) HF.out.1 (by have := HF.out.2; omega))
      have HP2 := Lib.hid (fun X (hX : Below w3.heap.size w3 X) => lpaths10_any x _ (k : Int) X (hV3.on hX) HF.out.1 (by have := HF.out.2; omega))
      have HPt := Lib.hid (fun X (hX : Below w3.heap.size w3 X) => HPt0.out X (bseq8 HB4.out hX))
      unfold cellsT at HCo HRc HA1 HA2 HP1 HP2
      generalize costT x = Co at *
      have HCel : Hid (∀ X, Below w3.heap.size w3 X → (X.cell? ⟨w2.heap.size, 0, none⟩ = some (.int .i64 k2) ∧ X.cell? ⟨w2.heap.size, 1, none⟩ = some (.int .i64 z2) ∧ X.cell? ⟨w2.heap.size, 2, none⟩ = some (.slice A1 n1 c1) ∧ X.cell? ⟨w2.heap.size, 3, none⟩ = some (.slice A2 n2 c2) ∧ X.cell? ⟨w2.heap.size, 4, none⟩ = some (.slice A3 n3 c3)) ∧ X.cell? ⟨w.heap.size, 0, none⟩ = some (.slice A n cp) ∧ X.cell? ⟨w.heap.size, 1, none⟩ = some (.int .i64 i)) := Lib.hid (fun X hX => ⟨(HT3.out.on hX).cells, (HX4.out.on hX HX4.out.lt).cells⟩)
      clear hP1 hy1 hB3 hB4 hV3
      go_upto_region 4 with fail
      rw [← hw3]
      clear hw3
      have hD : Below w3.heap.size w3 w3.drew := (Below.refl _ _).drew
      have hwk := HWk.out
      go_region_held_law (fun X => (X.cell? ⟨w2.heap.size, 0, none⟩ = some (.int .i64 k2) ∧ X.cell? ⟨w2.heap.size, 1, none⟩ = some (.int .i64 z2) ∧ X.cell? ⟨w2.heap.size, 2, none⟩ = some (.slice A1 n1 c1) ∧ X.cell? ⟨w2.heap.size, 3, none⟩ = some (.slice A2 n2 c2) ∧ X.cell? ⟨w2.heap.size, 4, none⟩ = some (.slice A3 n3 c3)) ∧ X.cell? ⟨w.heap.size, 0, none⟩ = some (.slice A n cp) ∧ X.cell? ⟨w.heap.size, 1, none⟩ = some (.int .i64 i)) (with_reducible exact HCel.out _ hD) (first
        | (go_at_call 16; with_reducible refine (HA1.out _ hD).mono ?_; intro e wx hR; obtain ⟨he, hB⟩ := hR; subst he; have hD := bseq8 hD hB)
        | (go_at_call 17; with_reducible refine (HPt.out _ hD).mono ?_; intro e wx hR; obtain ⟨u6, i6, he, hi6, hn6, hB⟩ := hR; subst he; obtain ⟨A6, c6, hu6⟩ := hn6.form rfl; subst hu6; have hD := bseq8 hD hB)
        | (go_at_call 16; with_reducible refine (HA2.out _ hD _ _ _ _ hn6 hi6).mono ?_; intro e wx hR; obtain ⟨he, hB⟩ := hR; subst he; have hD := bseq8 hD hB)
        | (go_at_call 18; with_reducible refine (HP1.out _ hD).mono ?_; intro e wx hR; obtain ⟨he, hB⟩ := hR; subst he; have hD := bseq8 hD hB)
        | (go_at_call 18; with_reducible refine (HP2.out _ hD).mono ?_; intro e wx hR; obtain ⟨he, hB⟩ := hR; subst he; have hD := bseq8 hD hB)
        | (go_at_call 19; with_reducible refine (HCo.out _ hD).mono ?_; intro e wx hR; obtain ⟨he, hB⟩ := hR; subst he; have hD := bseq8 hD hB)
        | (go_at_call 20; with_reducible refine (HRc.out _ hD).mono ?_; intro e wx hR; obtain ⟨he, hB⟩ := hR; subst he; have hD := bseq8 hD hB))
      all_goals go_wp2_with fail
      all_goals go_ret
      all_goals exact ⟨by simp, bseq8 HB4.out hD⟩

end Go.Proofs.YtdfldfnjjjcleaaDoor
