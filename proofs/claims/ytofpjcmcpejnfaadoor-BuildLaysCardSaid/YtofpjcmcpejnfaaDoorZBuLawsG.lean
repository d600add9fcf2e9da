/-
  Layer 8: the law BuildLays.
-/
import Derived.Test.YtofpjcmcpejnfaaDoorZBuRefH
import Derived.Test.YtofpjcmcpejnfaaDoorZBuLawsA
import Derived.Test.YtofpjcmcpejnfaaDoorZTrMany

namespace Go.Proofs.YtofpjcmcpejnfaaDoor
open Go.RowKit Go.Deep

theorem sameA_refl (a : List (List Int)) : sameA a a = true := by
  unfold sameA
  simp

set_option maxRecDepth 100000 in
set_option maxHeartbeats 1000000 in
theorem lays_any (t : Tr) (v : Value) (z : Int) (w : World) (L : Laid w) (h : TrV w w.heap.size t v) :
    Calls Tryd.prog 12 #[v, .int .i64 z] w fun e w' => e = .returned (.bool true) ∧ Below w.heap.size w w' := by
  have HB := Lib.hid (fun X (hX : Below w.heap.size w X) => build_any t v z X (L.on hX) (h.on hX))
  have HRf := Lib.hid (fun X (hX : Below w.heap.size w X) => rbuild_any t v z X (h.on hX))
  have he : (buildT t z).2 = 0 ∨ (buildT t z).2 = 1 ∨ (buildT t z).2 = 24 := by
    unfold buildT
    split
    · exact .inr (.inl rfl)
    · split
      · exact .inr (.inr rfl)
      · exact .inl rfl
  obtain ⟨k, y, ws, bs, ks⟩ := t
  obtain ⟨A1, c1, A2, c2, A3, c3, rfl, -⟩ := h.parts
  clear h
  generalize buildT (.mk k y ws bs ks) z = bt at *
  obtain ⟨a, e⟩ := bt
  dsimp only at HB HRf he
  have HSm := Lib.hid (fun v u X (hv : ArV X X.heap.size v a) (hu : ArV X X.heap.size u a) => rsame7_any v u a a X hv hu)
  rw [sameA_refl] at HSm
  generalize ws.length = nw at *
  generalize bs.length = nb at *
  generalize ks.length = nk at *
  obtain ⟨W1, hW1⟩ : ∃ W1, W1 = w.alloc (.cells (cellsT k y (.slice A1 nw c1) (.slice A2 nb c2) (.slice A3 nk c3)) 26) := ⟨_, rfl⟩
  have hB1 : Below w.heap.size w W1 := by rw [hW1]; exact (Below.refl _ _).alloc (Nat.le_refl _) _
  have hT1 : TBox W1 w.heap.size k y (.slice A1 nw c1) (.slice A2 nb c2) (.slice A3 nk c3) := by rw [hW1]; exact TBox.new _ _ _ _ _ _
  have HB1 := Lib.hid hB1
  have HT1 := Lib.hid hT1
  obtain ⟨d0, d1, d2, d3, d4⟩ := hT1.cells
  unfold cellsT at hW1 HB HRf ⊢
  have hwe : IntKind.i64.wrap e = e := IntWalk.i64_in _ (by omega)
  have he1 : 0 ≤ e := by omega
  have he2 : e ≤ 24 := by omega
  clear hB1 hT1 he
  go_enter Tryd.func12, Tryd.ntmps12
  go_upto_region 1 with fail
  rw [← hW1]
  clear hW1
  go_wp2_with fail
  refine (HB.out _ HB1.out).mono ?_
  rintro e2 w2 ⟨x, rfl, hA2, hB2⟩
  have HA2 := Lib.hid hA2.arV
  obtain ⟨Aa, ca, rfl⟩ := HA2.out.form rfl
  have HB2 := Lib.hid (HB1.out.trans (hB2.mono HB1.out.size))
  have HT2 := Lib.hid (HT1.out.on hB2)
  clear hA2 hB2 d0 d1 d2 d3 d4
  obtain ⟨d0, d1, d2, d3, d4⟩ := HT2.out.cells
  go_wp2_with fail
  refine (HRf.out _ HB2.out).mono ?_
  rintro e3 w3 ⟨A', n', c', rfl, hA3, hB3⟩
  have HS := Lib.hid (HSm.out _ _ w3 (HA2.out.on hB3) hA3)
  have HB3 := Lib.hid (HB2.out.trans (hB3.mono HB2.out.size))
  clear hA3 hB3 d0 d1 d2 d3 d4
  go_wp2_with fail
  refine HS.out.mono ?_
  rintro e4 w4 ⟨rfl, hB4⟩
  have HB4 := Lib.hid (HB3.out.trans (hB4.mono HB3.out.size))
  clear hB4
  go_wp2_with fail
  go_ret
  exact ⟨by simp, HB4.out⟩

set_option maxRecDepth 100000 in
set_option maxHeartbeats 2000000 in
theorem blays_walk (t : Tr) (v : Value) (z : Int) (vc : Value) (c : List Int) (k : Nat) (w : World) (hT : TrW w w.heap.size t v) (h : Bytes w w.heap.size vc c) (hc : AllB c) (hk : k ≤ 255) (L : Laid w) :
    Calls Tryd.prog 3 #[v, .int .i64 z, vc, .int .u8 k] w fun e w' => e = .returned (.bool true) ∧ Below w.heap.size w w' := by
  have HKn := Lib.hid (fun X (hX : Below w.heap.size w X) => known8_any X (L.on hX))
  have HTr := Lib.hid (fun X (hX : Below w.heap.size w X) => tree_all 9 (by omega) c vc X w.heap.size hX.size (h.below hX (Nat.le_refl _)) hc)
  have HMy := Lib.hid (fun X (hX : Below w.heap.size w X) => many_any _ t (Nat.le_refl _) v 400 X (TrW.on hX hX.size _ _ hT) (by omega) (by omega))
  have HLy := Lib.hid (fun X (hX : Below w.heap.size w X) t x z (ht : TrV X X.heap.size t x) => lays_any t x z X (L.on hX) ht)
  have HSmall := Lib.hid (fun X (hX : Below w.heap.size w X) (hs : total t ≤ 400) => TrW.small _ _ (TrW.on hX hX.size _ _ hT) (by omega))
  obtain ⟨A, n, rfl⟩ := h.form rfl
  obtain ⟨T, hTt⟩ : ∃ T, T = t := ⟨_, rfl⟩
  obtain ⟨kt, zt, wt, bt, kst⟩ := t
  unfold TrW at hT
  obtain ⟨vw, vb, A3, c3, rfl, -, hw3, hb3, -⟩ := hT
  obtain ⟨A1, c1, rfl⟩ := hw3.form rfl
  obtain ⟨A2, c2, eb, -⟩ := hb3
  subst eb
  rw [← hTt] at HMy HSmall
  clear hTt hw3 h
  generalize wt.length = nw at *
  generalize bt.length = nb at *
  generalize kst.length = nk at *
  generalize (treeC 9 c).1 = U at *
  generalize (treeC 9 c).2 = rest at *
  generalize c.length = len at *
  obtain ⟨W1, hW1⟩ : ∃ W1, W1 = w.alloc (.cells (cellsT kt zt (.slice A1 nw c1) (.slice A2 nb c2) (.slice A3 nk c3)) 26) := ⟨_, rfl⟩
  have hB1 : Below w.heap.size w W1 := by rw [hW1]; exact (Below.refl _ _).alloc (Nat.le_refl _) _
  have hT1 : TBox W1 w.heap.size kt zt (.slice A1 nw c1) (.slice A2 nb c2) (.slice A3 nk c3) := by rw [hW1]; exact TBox.new _ _ _ _ _ _
  have HB1 := Lib.hid hB1
  have HT1 := Lib.hid hT1
  obtain ⟨d0, d1, d2, d3, d4⟩ := hT1.cells
  unfold cellsT at hW1 HMy HSmall ⊢
  have hwk : IntKind.i64.wrap ((1 : Int) + (k : Int) % 40) = 1 + (k : Int) % 40 := IntWalk.i64_in _ (by omega)
  clear hB1 hT1
  go_enter Tryd.func3, Tryd.ntmps3
  go_upto_region 1 with fail
  rw [← hW1]
  clear hW1
  go_wp2_with fail
  refine (HMy.out _ HB1.out).mono ?_
  rintro e2 w2 ⟨q, rfl, ⟨hq1, hq2⟩, hq3, hB2⟩
  have HB2 := Lib.hid (HB1.out.trans (hB2.mono HB1.out.size))
  have HT2 := Lib.hid (HT1.out.on hB2)
  have HQ := Lib.hid hq3
  clear hB2 d0 d1 d2 d3 d4 hq3
  by_cases hq : q < 0
  · have i1 : decide (q < 0) = true := decide_eq_true hq
    go_wp2_with fail
    refine (HKn.out _ HB2.out).mono ?_
    rintro e3 w3 ⟨rfl, hB3⟩
    have HB3 := Lib.hid (HB2.out.trans (hB3.mono HB2.out.size))
    clear hB3
    go_wp2_with fail
    go_ret
    exact ⟨rfl, HB3.out⟩
  · have i1 : decide (q < 0) = false := decide_eq_false hq
    have hs400 : total T ≤ 400 := by have := HQ.out (by omega); omega
    have HSm := Lib.hid (fun X hX => HSmall.out X hX hs400)
    by_cases hl : 200 < len
    · have i2 : (200 : Int) < (len : Int) := by omega
      have i3 : decide ((200 : Int) < (len : Int)) = true := decide_eq_true i2
      clear hs400
      go_wp2_with fail
      refine (HKn.out _ HB2.out).mono ?_
      rintro e3 w3 ⟨rfl, hB3⟩
      have HB3 := Lib.hid (HB2.out.trans (hB3.mono HB2.out.size))
      clear hB3
      go_wp2_with fail
      go_ret
      exact ⟨rfl, HB3.out⟩
    · have i2 : ¬ (200 : Int) < (len : Int) := by omega
      have i3 : decide ((200 : Int) < (len : Int)) = false := decide_eq_false i2
      clear hs400
      go_wp2_with fail
      refine (HKn.out _ HB2.out).mono ?_
      rintro e3 w3 ⟨rfl, hB3⟩
      have HT3 := Lib.hid (HT2.out.on hB3)
      have HB3 := Lib.hid (HB2.out.trans (hB3.mono HB2.out.size))
      clear hB3
      go_wp2_with fail
      refine (HTr.out _ HB3.out).mono ?_
      rintro e w4 ⟨x, y, rfl, hTx, hYy, hB4⟩
      obtain ⟨k4, z4, A4, n4, c4, A5, n5, c5, A6, n6, c6, rfl⟩ := hTx.parts
      obtain ⟨A11, n11, rfl⟩ := hYy.form rfl
      generalize rest.length = m11 at *
      have HUv := Lib.hid (TrP.trV (fun b hb => hb.2) _ _ hTx)
      have HT4 := Lib.hid (HT3.out.on hB4)
      have HB4 := Lib.hid (HB3.out.trans (hB4.mono HB3.out.size))
      clear hTx hYy hB4
      obtain ⟨W5, hW5⟩ : ∃ W5, W5 = w4.alloc (.cells (cellsT k4 z4 (.slice A4 n4 c4) (.slice A5 n5 c5) (.slice A6 n6 c6)) 26) := ⟨_, rfl⟩
      have hB5 : Below w4.heap.size w4 W5 := by rw [hW5]; exact (Below.refl _ _).alloc (Nat.le_refl _) _
      have hU5 : TBox W5 w4.heap.size k4 z4 (.slice A4 n4 c4) (.slice A5 n5 c5) (.slice A6 n6 c6) := by rw [hW5]; exact TBox.new _ _ _ _ _ _
      have HU5 := Lib.hid (fun X (hX : Below W5.heap.size W5 X) => hU5.on hX)
      have HT5 := Lib.hid (fun X (hX : Below W5.heap.size W5 X) => (HT4.out.on hB5).on hX)
      have HX5 := Lib.hid (fun X (hX : Below W5.heap.size W5 X) => (HUv.out.on hB5).on hX)
      have HB5 := Lib.hid (HB4.out.trans (hB5.mono HB4.out.size))
      clear hB5 hU5
      unfold cellsT at hW5 HX5 ⊢
      go_upto_region 4 with fail
      rw [← hW5]
      clear hW5
      have hb0 : Below W5.heap.size W5 W5 := Below.refl _ _
      obtain ⟨d0, d1, d2, d3, d4⟩ := (HT5.out _ hb0).cells
      have hL1 := Lib.hid (HLy.out _ HB5.out _ _ z (HSm.out _ HB5.out))
      clear hb0
      go_wp2_with fail
      refine hL1.out.mono ?_
      rintro e6 w6 ⟨rfl, hB6⟩
      have HB6 := Lib.hid hB6
      clear hB6 d0 d1 d2 d3 d4 hL1
      obtain ⟨d0, d1, d2, d3, d4⟩ := (HU5.out _ HB6.out).cells
      have hL1 := Lib.hid (HLy.out _ (HB5.out.trans (HB6.out.mono HB5.out.size)) _ _ z (HX5.out _ HB6.out))
      go_wp2_with fail
      refine hL1.out.mono ?_
      rintro e7 w7 ⟨rfl, hB7⟩
      have HB7 := Lib.hid (bseq8 HB6.out hB7)
      clear hB7 d0 d1 d2 d3 d4 hL1
      obtain ⟨d0, d1, d2, d3, d4⟩ := (HU5.out _ HB7.out).cells
      have hL1 := Lib.hid (HLy.out _ (HB5.out.trans (HB7.out.mono HB5.out.size)) _ _ (1 + (k : Int) % 40) (HX5.out _ HB7.out))
      go_wp2_with fail
      refine hL1.out.mono ?_
      rintro e8 w8 ⟨rfl, hB8⟩
      have HB8 := Lib.hid (bseq8 HB7.out hB8)
      clear hB8 d0 d1 d2 d3 d4 hL1
      obtain ⟨d0, d1, d2, d3, d4⟩ := (HU5.out _ HB8.out).cells
      have hL1 := Lib.hid (HLy.out _ (HB5.out.trans (HB8.out.mono HB5.out.size)) _ _ 4096 (HX5.out _ HB8.out))
      go_wp2_with fail
      refine hL1.out.mono ?_
      rintro e9 w9 ⟨rfl, hB9⟩
      have HB9 := Lib.hid (bseq8 HB8.out hB9)
      clear hB9 d0 d1 d2 d3 d4 hL1
      obtain ⟨d0, d1, d2, d3, d4⟩ := (HT5.out _ HB9.out).cells
      have hL1 := Lib.hid (HLy.out _ (HB5.out.trans (HB9.out.mono HB5.out.size)) _ _ (k : Int) (HSm.out _ (HB5.out.trans (HB9.out.mono HB5.out.size))))
      go_wp2_with fail
      refine hL1.out.mono ?_
      rintro e10 w10 ⟨rfl, hB10⟩
      have HB10 := Lib.hid (HB5.out.trans ((bseq8 HB9.out hB10).mono HB5.out.size))
      clear hB10
      go_wp2_with fail
      go_ret
      exact ⟨by simp, HB10.out⟩

end Go.Proofs.YtofpjcmcpejnfaaDoor
