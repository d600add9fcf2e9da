/-
  Layer 8: the law BuildOdd.
-/
import Derived.Test.YtofpjcmcpejnfaaDoorZBuLawsA
import Derived.Test.YtofpjcmcpejnfaaDoorZPlain

namespace Go.Proofs.YtofpjcmcpejnfaaDoor
open Go.RowKit Go.Deep

theorem TrV.inv {w : World} {B : Nat} {k z : Int} {ws bs : List Int} {ks : List Tr} {vw vb vk : Value} {k' z' : Int} (h : TrV w B (.mk k z ws bs ks) (.agg (cellsT k' z' vw vb vk))) : k' = k ∧ z' = z ∧ In64 k ∧ In64 z ∧ NumS .u64 w B vw ws ∧ Bytes w B vb bs ∧ Good1 k z ws bs ks.length ∧ ∃ A c, vk = .slice A ks.length c ∧ ks.length ≤ c ∧ c ≤ 9223372036854775807 ∧ (0 < ks.length → ∃ b off, A = some ⟨b, off, none⟩ ∧ b < B ∧ KidsAt w B b off ks) := by
  unfold TrV at h
  obtain ⟨vw0, vb0, A, c, e, hg, h1, h2, h3, h4, h5⟩ := h
  unfold cellsT at e
  simp only [Value.agg.injEq, Array.mk.injEq, List.cons.injEq, and_true, Value.int.injEq, true_and] at e
  obtain ⟨rfl, rfl, rfl, rfl, rfl⟩ := e
  exact ⟨rfl, rfl, hg.1, hg.2.1, h1, h2, hg, A, c, rfl, h3, h4, h5⟩
theorem TrV.turn {w : World} {B : Nat} {k z : Int} {ws bs : List Int} {ks : List Tr} {vw vb vk : Value} {k0 z0 : Int} (h : TrV w B (.mk k z ws bs ks) (.agg (cellsT k0 z0 vw vb vk))) {k' z' : Int} {ws' bs' : List Int} {vw' vb' : Value} (hk : In64 k') (hz : In64 z') (hw : NumS .u64 w B vw' ws') (hb : Bytes w B vb' bs')
    (l1 : ws'.length ≤ 1000000) (l2 : bs'.length ≤ 1000000) (r1 : ∀ x ∈ ws', 0 ≤ x ∧ x ≤ 18446744073709551615) (r2 : ∀ x ∈ bs', 0 ≤ x ∧ x ≤ 255) : TrV w B (.mk k' z' ws' bs' ks) (.agg (cellsT k' z' vw' vb' vk)) := by
  obtain ⟨-, -, -, -, -, -, hg, A, c, rfl, h3, h4, h5⟩ := h.inv
  unfold TrV
  exact ⟨vw', vb', A, c, rfl, ⟨hk, hz, l1, l2, hg.2.2.2.2.1, r1, r2⟩, hw, hb, h3, h4, h5⟩
theorem one_V (q : IntKind) (t : Nat) (w : World) (x : Int) : NumS q (w.alloc (.cells #[.int q x] t)) (w.alloc (.cells #[.int q x] t)).heap.size (.slice (some ⟨w.heap.size, 0, none⟩) 1 1) [x] := by
  refine ⟨_, 1, rfl, by simp, by omega, fun _ => ⟨w.heap.size, 0, rfl, by simp, fun j hj => ?_⟩⟩
  obtain rfl : j = 0 := by simp at hj; omega
  have := cell_one_new w (.int q x) t 0 (.int q x) rfl
  rwa [Addr.add_lit] at this

set_option maxRecDepth 100000 in
set_option maxHeartbeats 2000000 in
theorem bodd_walk (v : Value) (c : List Int) (which k : Nat) (w : World) (h : Bytes w w.heap.size v c) (hc : AllB c) (hwh : which ≤ 255) (hk : k ≤ 255) (L : Laid w) :
    Calls Tryd.prog 6 #[v, .int .u8 which, .int .u8 k] w fun e w' => e = .returned (.bool true) ∧ Below w.heap.size w w' := by
  have HKn := Lib.hid (fun X (hX : Below w.heap.size w X) => known8_any X (L.on hX))
  have HTr := Lib.hid (tree_all 9 (by omega) c v w w.heap.size (Nat.le_refl _) h hc)
  have HBd := Lib.hid (fun X (hX : Below w.heap.size w X) t x z (ht : TrV X X.heap.size t x) => build_any t x z X (L.on hX) ht)
  have HRt := Lib.hid (fun X t x (ht : TrV X X.heap.size t x) => right8_any t x X ht)
  have hr := tree_right c
  obtain ⟨A, n, rfl⟩ := h.form rfl
  obtain ⟨t, ht⟩ : ∃ t, t = (treeC 9 c).1 := ⟨_, rfl⟩
  rw [← ht] at HTr hr
  generalize (treeC 9 c).2 = rest at *
  generalize c.length = len at *
  obtain ⟨kt, zt, wt, bt, kt'⟩ := t
  clear ht h
  have hmk := run_make_row' (P := Tryd.prog) 22 44 (.int .u64 0) 8 Tryd.underlying22 Tryd.info44 rfl .i64 .i64 4097 (by omega) (by omega)
  rw [show (((4097 : Nat) : Int)) = 4097 from rfl] at hmk
  go_enter Tryd.func6, Tryd.ntmps6
  go_wp2_with fail
  refine HTr.out.mono ?_
  rintro e w2 ⟨x, y, rfl, hTx, hYy, hB2⟩
  obtain ⟨k1, z1, A1, n1, c1, A2, n2, c2, A3, n3, c3, rfl⟩ := hTx.parts
  obtain ⟨A10, n10, rfl⟩ := hYy.form rfl
  generalize rest.length = m10 at *
  have hTv := TrP.trV (fun b hb => hb.2) _ _ hTx
  obtain ⟨rfl, rfl, hk64, hz64, hN1, hBt1, hg1, -⟩ := hTv.inv
  have HTv := Lib.hid hTv
  have HB2 := Lib.hid hB2
  obtain ⟨W3, hW3⟩ : ∃ W3, W3 = (w2.alloc (.cells (cellsT k1 z1 (.slice A1 n1 c1) (.slice A2 n2 c2) (.slice A3 n3 c3)) 26)).alloc (.cells (cellsT k1 z1 (.slice A1 n1 c1) (.slice A2 n2 c2) (.slice A3 n3 c3)) 26) := ⟨_, rfl⟩
  have hB3 : Below w2.heap.size w2 W3 := by rw [hW3]; exact ((Below.refl _ _).alloc (Nat.le_refl _) _).alloc (by simp) _
  have hT3 : TBox W3 w2.heap.size k1 z1 (.slice A1 n1 c1) (.slice A2 n2 c2) (.slice A3 n3 c3) := by
    rw [hW3]
    exact (TBox.new _ _ _ _ _ _).on ((Below.refl _ _).alloc (Nat.le_refl _) _)
  have hU3 : TBox W3 (w2.heap.size + 1) k1 z1 (.slice A1 n1 c1) (.slice A2 n2 c2) (.slice A3 n3 c3) := by
    rw [hW3]
    have := TBox.new (w2.alloc (.cells (cellsT k1 z1 (.slice A1 n1 c1) (.slice A2 n2 c2) (.slice A3 n3 c3)) 26)) k1 z1 (.slice A1 n1 c1) (.slice A2 n2 c2) (.slice A3 n3 c3)
    rwa [World.size_alloc] at this
  have hz3 : W3.heap.size = w2.heap.size + 2 := by rw [hW3]; simp
  have HT3 := Lib.hid hT3
  have HU3 := Lib.hid hU3
  have HB3 := Lib.hid hB3
  have HNb := Lib.hid (And.intro hk64 (And.intro hz64 (And.intro hN1 (And.intro hBt1 hg1))))
  clear hTx hYy hTv hB2 hB3 hT3 hU3 hk64 hz64 hN1 hBt1 hg1
  unfold cellsT at hW3 ⊢
  obtain ⟨d0, d1, d2, d3, d4⟩ := HU3.out.cells
  have f0 := HU3.out.frozen 0
  have f1 := HU3.out.frozen 1
  have f2 := HU3.out.frozen 2
  have f3 := HU3.out.frozen 3
  go_upto_block 0 with fail
  rw [← hW3]
  clear hW3
  obtain ⟨q, hq⟩ : ∃ q : Int, q = (which : Int) % 4 := ⟨_, rfl⟩
  rw [← hq]
  have hq4 : q = 0 ∨ q = 1 ∨ q = 2 ∨ q = 3 := by omega
  clear hq
  go_cut [] (fun wx => ∃ u k' z' B1 m1 e1 B2 m2 e2, rightT u = false ∧ TBox wx (w2.heap.size + 1) k' z' (.slice B1 m1 e1) (.slice B2 m2 e2) (.slice A3 n3 c3) ∧ TrV wx wx.heap.size u (.agg (cellsT k' z' (.slice B1 m1 e1) (.slice B2 m2 e2) (.slice A3 n3 c3))) ∧ TBox wx w2.heap.size k1 z1 (.slice A1 n1 c1) (.slice A2 n2 c2) (.slice A3 n3 c3) ∧ Below w2.heap.size w2 wx)
  case first =>
    have hV3 := TrV.below HB3.out (Nat.le_refl _) _ _ HTv.out
    have HV3 := Lib.hid (fun X (hX : Below w2.heap.size W3 X) => TrV.more (B' := X.heap.size) (by have := hX.size; omega) _ _ (TrV.below hX (Nat.le_refl _) _ _ hV3))
    have hz0 : w2.heap.size ≠ w2.heap.size + 1 := by omega
    clear hV3
    rcases hq4 with rfl | rfl | rfl | rfl
    · have hX : Below w2.heap.size W3 (W3.setCell ⟨w2.heap.size + 1, 0, none⟩ (.int .i64 (3 + k))) := (Below.refl _ _).setCell (p := ⟨w2.heap.size + 1, 0, none⟩) (by show w2.heap.size ≤ w2.heap.size + 1; omega) _
      have hvv := HV3.out _ hX
      obtain ⟨-, -, -, h2, h3, h4, h5, -⟩ := hvv.inv
      have HFin := Lib.hid (And.intro (odd_kind (k := 3 + (k : Int)) (z := z1) (w := wt) (b := bt) (ks := kt') (by omega)) (And.intro (HU3.out.set0 (3 + (k : Int))) (And.intro (TrV.turn hvv (k' := 3 + (k : Int)) ⟨by omega, by omega⟩ h2 h3 h4 h5.2.2.1 h5.2.2.2.1 h5.2.2.2.2.2.1 h5.2.2.2.2.2.2) (And.intro (HT3.out.apart (i := 0) (v := .int .i64 (3 + (k : Int))) hz0) (HB3.out.trans hX)))))
      clear hX hvv h2 h3 h4 h5
      go_wp2_with fail
      go_meet
      exact ⟨_, _, _, _, _, _, _, _, _, HFin.out⟩
    · have hX : Below w2.heap.size W3 (W3.setCell ⟨w2.heap.size + 1, 1, none⟩ (.int .i64 7)) := (Below.refl _ _).setCell (p := ⟨w2.heap.size + 1, 1, none⟩) (by show w2.heap.size ≤ w2.heap.size + 1; omega) _
      have hvv := HV3.out _ hX
      obtain ⟨-, -, h2, -, h3, h4, h5, -⟩ := hvv.inv
      have HFin := Lib.hid (And.intro (odd_size (k := k1) (w := wt) (b := bt) (ks := kt')) (And.intro (HU3.out.set1 7) (And.intro (TrV.turn hvv (z' := 7) h2 ⟨by omega, by omega⟩ h3 h4 h5.2.2.1 h5.2.2.2.1 h5.2.2.2.2.2.1 h5.2.2.2.2.2.2) (And.intro (HT3.out.apart (i := 1) (v := .int .i64 7) hz0) (HB3.out.trans hX)))))
      clear hX hvv h2 h3 h4 h5
      go_wp2_with fail
      go_meet
      exact ⟨_, _, _, _, _, _, _, _, _, HFin.out⟩
    · obtain ⟨W4, hW4⟩ : ∃ W4, W4 = W3.alloc (.cells (madeCells #[Value.int .u64 0] 4097) 44) := ⟨_, rfl⟩
      have hB4 : Below W3.heap.size W3 W4 := by rw [hW4]; exact (Below.refl _ _).alloc (Nat.le_refl _) _
      have hrow : W4.rowIs W3.heap.size 44 4097 (fun _ => .int .u64 0) := by rw [hW4]; exact World.rowIs_made W3 (.int .u64 0) 4097 44
      have hlt : W3.heap.size < W4.heap.size := by rw [hW4]; simp
      have hne : W3.heap.size ≠ w2.heap.size + 1 := by omega
      have hN : NumS .u64 (W4.setCell ⟨w2.heap.size + 1, 2, none⟩ (.slice (some ⟨W3.heap.size, 0, none⟩) 4097 4097)) (W4.setCell ⟨w2.heap.size + 1, 2, none⟩ (.slice (some ⟨W3.heap.size, 0, none⟩) 4097 4097)).heap.size (.slice (some ⟨W3.heap.size, 0, none⟩) 4097 4097) (List.replicate 4097 0) := by
        refine ⟨_, 4097, by rw [List.length_replicate], by rw [List.length_replicate]; exact Nat.le_refl _, by omega, fun _ => ⟨W3.heap.size, 0, rfl, by rw [nblk_setCell]; exact hlt, fun j hj => ?_⟩⟩
        rw [List.length_replicate] at hj
        rw [Nat.zero_add, cell_same (blk_setCell_other _ _ _ _ (by exact hne)), hrow.cell hj, List.getElem?_replicate, if_pos hj]
        rfl
      have hX : Below w2.heap.size W3 (W4.setCell ⟨w2.heap.size + 1, 2, none⟩ (.slice (some ⟨W3.heap.size, 0, none⟩) 4097 4097)) := (hB4.mono (by omega)).setCell (p := ⟨w2.heap.size + 1, 2, none⟩) (by show w2.heap.size ≤ w2.heap.size + 1; omega) _
      have hvv := HV3.out _ hX
      obtain ⟨-, -, h1, h2, h3, h4, h5, -⟩ := hvv.inv
      have hrep : ∀ x ∈ List.replicate 4097 (0 : Int), 0 ≤ x ∧ x ≤ 18446744073709551615 := fun x hx => by
        rw [List.eq_of_mem_replicate hx]
        omega
      have HFin := Lib.hid (And.intro (odd_words (k := k1) (z := z1) (w := List.replicate 4097 0) (b := bt) (ks := kt') List.length_replicate) (And.intro ((HU3.out.on hB4).set2 (.slice (some ⟨W3.heap.size, 0, none⟩) 4097 4097)) (And.intro (TrV.turn hvv h1 h2 hN h4 (by rw [List.length_replicate]; omega) h5.2.2.2.1 hrep h5.2.2.2.2.2.2) (And.intro ((HT3.out.on hB4).apart (i := 2) (v := .slice (some ⟨W3.heap.size, 0, none⟩) 4097 4097) hz0) (HB3.out.trans hX)))))
      have e0 := (HU3.out.on hB4).cells
      have e5 := (HU3.out.on hB4).frozen 2
      clear hX hvv h1 h2 h3 h4 h5 hN hrow hlt hB4 hrep
      obtain ⟨e0, e1, e2, e3, e4⟩ := e0
      subst hW4
      rw [World.setCell_alloc_past _ _ _ _ (by omega), hz3] at HFin
      go_wp2_with fail
      go_meet
      exact ⟨_, _, _, _, _, _, _, _, _, HFin.out⟩
    · obtain ⟨W4, hW4⟩ : ∃ W4, W4 = W3.alloc (.cells #[.int .u8 k] 5) := ⟨_, rfl⟩
      have hB4 : Below W3.heap.size W3 W4 := by rw [hW4]; exact (Below.refl _ _).alloc (Nat.le_refl _) _
      have hb4 : Bytes W4 W4.heap.size (.slice (some ⟨W3.heap.size, 0, none⟩) 1 1) [(k : Int)] := by rw [hW4]; exact one_V .u8 5 W3 k
      obtain ⟨W5, hW5⟩ : ∃ W5, W5 = W4.setCell ⟨w2.heap.size + 1, 3, none⟩ (.slice (some ⟨W3.heap.size, 0, none⟩) 1 1) := ⟨_, rfl⟩
      have hu5 : TBox W5 (w2.heap.size + 1) k1 z1 (.slice A1 n1 c1) (.slice (some ⟨W3.heap.size, 0, none⟩) 1 1) (.slice A3 n3 c3) := by rw [hW5]; exact (HU3.out.on hB4).set3 _
      have hne : W3.heap.size ≠ w2.heap.size + 1 := by omega
      have hz5 : W5.heap.size = W3.heap.size + 1 := by rw [hW5, nblk_setCell, hW4]; simp
      have hb5 : Bytes W5 W5.heap.size (.slice (some ⟨W3.heap.size, 0, none⟩) 1 1) [(k : Int)] := by
        obtain ⟨A', c', e, g1, g2, g3⟩ := hb4
        refine ⟨A', c', e, g1, g2, fun hp => ?_⟩
        obtain ⟨b, off, ea, hb, hcell⟩ := g3 hp
        rw [ea] at e
        simp only [Value.slice.injEq, Option.some.injEq, Addr.mk.injEq] at e
        refine ⟨b, off, ea, by rw [hW5, nblk_setCell]; exact hb, fun j hj => ?_⟩
        rw [hW5, cell_same (blk_setCell_other _ _ _ _ (by show b ≠ w2.heap.size + 1; omega))]
        exact hcell j hj
      have hB5 : Below w2.heap.size W3 W5 := by rw [hW5]; exact (hB4.mono (by omega)).setCell (p := ⟨w2.heap.size + 1, 3, none⟩) (by show w2.heap.size ≤ w2.heap.size + 1; omega) _
      obtain ⟨W6, hW6⟩ : ∃ W6, W6 = W5.alloc (.cells #[.int .u64 1] 44) := ⟨_, rfl⟩
      have hB6 : Below W5.heap.size W5 W6 := by rw [hW6]; exact (Below.refl _ _).alloc (Nat.le_refl _) _
      have hn6 : NumS .u64 W6 W6.heap.size (.slice (some ⟨W5.heap.size, 0, none⟩) 1 1) [1] := by rw [hW6]; exact one_V .u64 44 W5 1
      have hs6 := hB6.size
      have keepS : ∀ {q : IntKind} {v : Value} {l : List Int} {g : Nat}, NumS q W6 W6.heap.size v l → (∀ b off, v = .slice (some ⟨b, off, none⟩) 1 1 → b ≠ w2.heap.size + 1) → v = .slice (some ⟨g, 0, none⟩) 1 1 → NumS q (W6.setCell ⟨w2.heap.size + 1, 2, none⟩ (.slice (some ⟨W5.heap.size, 0, none⟩) 1 1)) (W6.setCell ⟨w2.heap.size + 1, 2, none⟩ (.slice (some ⟨W5.heap.size, 0, none⟩) 1 1)).heap.size v l := by
        intro q v l g h hv he
        obtain ⟨A', c', e, g1, g2, g3⟩ := h
        refine ⟨A', c', e, g1, g2, fun hp => ?_⟩
        obtain ⟨b, off, ea, hb, hcell⟩ := g3 hp
        have hb2 : b ≠ w2.heap.size + 1 := by
          rw [e, ea] at he
          simp only [Value.slice.injEq, Option.some.injEq, Addr.mk.injEq] at he
          refine hv b off ?_
          rw [e, ea, he.2.1, he.2.2]
        refine ⟨b, off, ea, by rw [nblk_setCell]; exact hb, fun j hj => ?_⟩
        rw [cell_same (blk_setCell_other _ _ _ _ (by exact hb2))]
        exact hcell j hj
      have hX : Below w2.heap.size W3 (W6.setCell ⟨w2.heap.size + 1, 2, none⟩ (.slice (some ⟨W5.heap.size, 0, none⟩) 1 1)) := (hB5.trans (hB6.mono (by have := hB5.size; omega))).setCell (p := ⟨w2.heap.size + 1, 2, none⟩) (by show w2.heap.size ≤ w2.heap.size + 1; omega) _
      have hvv := HV3.out _ hX
      obtain ⟨-, -, h1, h2, h3, h4, h5, -⟩ := hvv.inv
      have hw7 := keepS hn6 (fun b off e => by simp only [Value.slice.injEq, Option.some.injEq, Addr.mk.injEq] at e; omega) rfl
      have hb7 := keepS (q := .u8) (hb5.on hB6) (fun b off e => by simp only [Value.slice.injEq, Option.some.injEq, Addr.mk.injEq] at e; omega) rfl
      have hT6 : TBox W6 w2.heap.size k1 z1 (.slice A1 n1 c1) (.slice A2 n2 c2) (.slice A3 n3 c3) := by
        refine TBox.on ?_ hB6
        rw [hW5]
        exact (HT3.out.on hB4).apart hz0
      have HFin := Lib.hid (And.intro (odd_both (k := k1) (z := z1) (w := [1]) (b := [(k : Int)]) (ks := kt') rfl rfl) (And.intro ((hu5.on hB6).set2 (.slice (some ⟨W5.heap.size, 0, none⟩) 1 1)) (And.intro (TrV.turn hvv h1 h2 hw7 hb7 (by simp) (by simp) (by simp) (by simp; omega)) (And.intro (hT6.apart (i := 2) (v := .slice (some ⟨W5.heap.size, 0, none⟩) 1 1) hz0) (HB3.out.trans hX)))))
      have e0 := (HU3.out.on hB4).cells
      have e5 := (HU3.out.on hB4).frozen 3
      have g0 := (hu5.on hB6).cells
      have g5 := (hu5.on hB6).frozen 2
      clear hX hvv h1 h2 h3 h4 h5 hw7 hb7 hT6 keepS hn6 hs6 hB6 hB5 hb5 hu5 hb4 hB4
      obtain ⟨e0, e1, e2, e3, e4⟩ := e0
      obtain ⟨g0, g1, g2, g3, g4⟩ := g0
      rw [hz5] at HFin
      subst hW6
      subst hW5
      subst hW4
      rw [World.setCell_alloc_past _ _ _ _ (by rw [nblk_setCell, World.size_alloc]; omega), World.setCell_alloc_past _ _ _ _ (by omega), World.setCell_alloc_past _ _ _ _ (by rw [nblk_setCell]; omega), hz3] at HFin
      go_wp2_with fail
      go_meet
      exact ⟨_, _, _, _, _, _, _, _, _, HFin.out⟩
  case rest =>
    obtain ⟨u, k', z', B1, m1, e1, B2, m2, e2, hru, hU4, hV4, hT4, hB4⟩ := hcut
    have HU4 := Lib.hid hU4
    have HV4 := Lib.hid hV4
    have HT4 := Lib.hid hT4
    have HB4 := Lib.hid (bseq8 HB2.out hB4)
    have HTv4 := Lib.hid (HTv.out.on hB4)
    have HBu := Lib.hid (HBd.out wc (bseq8 HB2.out hB4) _ _ 100 hV4)
    rw [buildT_arg (.inr (.inr hru))] at HBu
    clear hU4 hV4 hT4 hB4 d0 d1 d2 d3 d4 f0 f1 f2 f3
    obtain ⟨d0, d1, d2, d3, d4⟩ := HU4.out.cells
    unfold cellsT at HBu
    go_wp2_with fail
    refine HBu.out.mono ?_
    rintro e w5 ⟨xb, rfl, hA5, hB5⟩
    obtain ⟨Ab, nb, rfl⟩ := hA5.arV.form rfl
    have HB5 := Lib.hid hB5
    clear hB5 hA5 d0 d1 d2 d3 d4
    go_wp2_with fail
    refine (HKn.out _ (bseq8 HB4.out HB5.out)).mono ?_
    rintro e w6 ⟨rfl, hB6⟩
    have HB6 := Lib.hid (bseq8 HB5.out hB6)
    clear hB6
    obtain ⟨d0, d1, d2, d3, d4⟩ := (HT4.out.on HB6.out).cells
    have HR1 := Lib.hid (HRt.out _ _ _ (HTv4.out.on HB6.out))
    rw [hr] at HR1
    unfold cellsT at HR1
    go_wp2_with fail
    refine HR1.out.mono ?_
    rintro e w7 ⟨rfl, hB7⟩
    have HB7 := Lib.hid (bseq8 HB6.out hB7)
    clear hB7 d0 d1 d2 d3 d4
    obtain ⟨d0, d1, d2, d3, d4⟩ := (HU4.out.on HB7.out).cells
    have HR2 := Lib.hid (HRt.out _ _ _ (HV4.out.on HB7.out))
    rw [hru] at HR2
    unfold cellsT at HR2
    go_wp2_with fail
    refine HR2.out.mono ?_
    rintro e w8 ⟨rfl, hB8⟩
    have HB8 := Lib.hid (bseq8 HB4.out (bseq8 HB7.out hB8))
    clear hB8
    go_wp2_with fail
    go_ret
    exact ⟨by simp, HB8.out⟩

end Go.Proofs.YtofpjcmcpejnfaaDoor
