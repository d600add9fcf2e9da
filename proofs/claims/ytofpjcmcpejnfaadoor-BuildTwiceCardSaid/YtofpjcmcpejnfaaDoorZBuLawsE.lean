/-
  Layer 8: the law BuildTwice.
-/
import Derived.Test.YtofpjcmcpejnfaaDoorZBuOver
import Derived.Deep.RegionHeld3
import Derived.Deep.RegionLaw
import Derived.Test.YtofpjcmcpejnfaaDoorZWord
import Derived.Laws.Bits64

namespace Go.Proofs.YtofpjcmcpejnfaaDoor
open Go.RowKit Go.Deep

set_option maxRecDepth 100000 in
set_option maxHeartbeats 2000000 in
theorem btwice_walk (v : Value) (c : List Int) (k i : Nat) (w : World) (h : Bytes w w.heap.size v c) (hc : AllB c) (hk : k ≤ 255) (hi : i ≤ 255) (L : Laid w) :
    Calls Tryd.prog 7 #[v, .int .u8 k, .int .u8 i] w fun e w' => e = .returned (.bool true) ∧ Below w.heap.size w w' := by
  have HKn := Lib.hid (fun X (hX : Below w.heap.size w X) => known8_any X (L.on hX))
  have HTr := Lib.hid (fun X (hX : Below w.heap.size w X) => tree_all 9 (by omega) c v X w.heap.size hX.size (h.below hX (Nat.le_refl _)) hc)
  have HBd := Lib.hid (fun X (hX : Below w.heap.size w X) t x z (ht : TrV X X.heap.size t x) => build_any t x z X (L.on hX) ht)
  obtain ⟨A, n, rfl⟩ := h.form rfl
  by_cases h150 : 150 < c.length
  · have i1 : decide ((150 : Int) < (c.length : Int)) = true := decide_eq_true (by omega)
    have i2 : (150 : Int) < (c.length : Int) := by omega
    generalize c.length = len at *
    go_enter Tryd.func7, Tryd.ntmps7
    go_wp2_with fail
    refine (HKn.out _ (Below.refl _ _)).mono ?_
    rintro e w2 ⟨rfl, hB2⟩
    have HB2 := Lib.hid hB2
    clear hB2
    go_wp2_with fail
    go_ret
    exact ⟨rfl, HB2.out⟩
  · have i2 : ¬ (150 : Int) < (c.length : Int) := by omega
    have hd := tree_deep c
    have hn : needs (treeC 9 c).1 ≤ 4000 := by have := tree_needs c; omega
    obtain ⟨s, hs⟩ : ∃ s : Nat, s = 2 + k % 60 := ⟨_, rfl⟩
    have hwS : IntKind.i64.wrap ((2 : Int) + (k : Int) % 60) = s := by rw [IntWalk.i64_in _ (by omega)]; omega
    generalize (treeC 9 c).1 = T at *
    generalize (treeC 9 c).2 = rest at *
    obtain ⟨J, hJ⟩ : ∃ J : Int, J = (i : Int) + 1 := ⟨_, rfl⟩
    have hwJ : IntKind.u64.wrap ((i : Int) + 1) = J := by rw [IntKind.wrap_u64]; omega
    have hJb : 0 ≤ J ∧ J ≤ 18446744073709551615 := by omega
    have HJ := Lib.hid (show (i : Int) ≠ J by omega)
    clear hJ
    obtain ⟨l, b1, b2, b3, b4⟩ := over_lays hd hn (i : Int) J
    generalize c.length = len at *
    have HSame := Lib.hid (fun X x y (hx : TrV X X.heap.size T x) (hy : TrV X X.heap.size T y) => same8_any T T x y 31 X hd (by omega) hx hy)
    have HOver := Lib.hid (fun X x y (hx : TrV X X.heap.size (overT (i : Int) T) x) (hy : TrV X X.heap.size (overT J T) y) => same8_any (overT (i : Int) T) (overT J T) x y 32 X (over_right hd) (by omega) hx hy)
    rw [sameT_refl] at HSame
    rw [over_same HJ.out] at HOver
    have HBa := Lib.hid (fun X (hX : Below w.heap.size w X) x (ht : TrV X X.heap.size T x) => HBd.out X hX T x (s : Int) ht)
    have HBx := Lib.hid (fun X (hX : Below w.heap.size w X) x (ht : TrV X X.heap.size (overT (i : Int) T) x) => HBd.out X hX _ x ((4096 : Int)) ht)
    have HBy := Lib.hid (fun X (hX : Below w.heap.size w X) x (ht : TrV X X.heap.size (overT J T) x) => HBd.out X hX _ x ((4096 : Int)) ht)
    rw [b1] at HBx
    rw [b2] at HBy
    generalize buildT T (s : Int) = bt at *
    have HB3 := Lib.hid b3
    have HB4 := Lib.hid b4
    clear HBd b1 b2 b3 b4 hd hn hs
    go_enter Tryd.func7, Tryd.ntmps7
    go_wp2_with fail
    refine (HTr.out _ (Below.refl _ _)).mono ?_
    rintro e w2 ⟨x, y, rfl, hTx, hYy, hB2⟩
    obtain ⟨k1, z1, A1, n1, c1, A2, n2, c2, A3, n3, c3, rfl⟩ := hTx.parts
    obtain ⟨A10, n10, rfl⟩ := hYy.form rfl
    generalize rest.length = m10 at *
    have hTv := TrP.trV (fun b hb => hb.2) _ _ hTx
    have HTv := Lib.hid hTv
    have HB2 := Lib.hid hB2
    clear hTx hYy hTv hB2
    obtain ⟨W3, hW3⟩ : ∃ W3, W3 = w2.alloc (.cells (cellsT k1 z1 (.slice A1 n1 c1) (.slice A2 n2 c2) (.slice A3 n3 c3)) 26) := ⟨_, rfl⟩
    have hB3 : Below w2.heap.size w2 W3 := by rw [hW3]; exact (Below.refl _ _).alloc (Nat.le_refl _) _
    have hT3 : TBox W3 w2.heap.size k1 z1 (.slice A1 n1 c1) (.slice A2 n2 c2) (.slice A3 n3 c3) := by rw [hW3]; exact TBox.new _ _ _ _ _ _
    have HT3 := Lib.hid hT3
    have HV3 := Lib.hid (HTv.out.on hB3)
    have HB3 := Lib.hid (bseq8 HB2.out hB3)
    clear hB3 hT3 HTv HB2
    unfold cellsT at hW3 ⊢
    go_upto_region 4 with fail
    rw [← hW3]
    clear hW3
    go_wp2_with fail
    refine (HTr.out _ HB3.out).mono ?_
    rintro e w4 ⟨x, y, rfl, hTx, hYy, hB4⟩
    obtain ⟨k4, z4, A4, n4, c4, A5, n5, c5, A6, n6, c6, rfl⟩ := hTx.parts
    obtain ⟨A11, n11, rfl⟩ := hYy.form rfl
    generalize rest.length = m11 at *
    have HTv := Lib.hid (TrP.trV (fun b hb => hb.2) _ _ hTx)
    have HT4 := Lib.hid (HT3.out.on hB4)
    have HV4 := Lib.hid (HV3.out.on hB4)
    have HB4 := Lib.hid (bseq8 HB3.out hB4)
    clear hTx hYy hB4 HT3 HV3 HB3 HTr
    obtain ⟨W5, hW5⟩ : ∃ W5, W5 = w4.alloc (.cells (cellsT k4 z4 (.slice A4 n4 c4) (.slice A5 n5 c5) (.slice A6 n6 c6)) 26) := ⟨_, rfl⟩
    have hB5 : Below w4.heap.size w4 W5 := by rw [hW5]; exact (Below.refl _ _).alloc (Nat.le_refl _) _
    have hU5 : TBox W5 w4.heap.size k4 z4 (.slice A4 n4 c4) (.slice A5 n5 c5) (.slice A6 n6 c6) := by rw [hW5]; exact TBox.new _ _ _ _ _ _
    have HU5 := Lib.hid hU5
    have HT5 := Lib.hid (HT4.out.on hB5)
    have HV5 := Lib.hid (HV4.out.on hB5)
    have HX5 := Lib.hid (HTv.out.on hB5)
    have HB5 := Lib.hid (bseq8 HB4.out hB5)
    clear hB5 hU5 HTv HT4 HV4 HB4
    unfold cellsT at hW5 ⊢
    go_upto_region 5 with fail
    rw [← hW5]
    clear hW5
    obtain ⟨d0, d1, d2, d3, d4⟩ := HT5.out.cells
    have HCa := Lib.hid (HBa.out W5 HB5.out _ HV5.out)
    unfold cellsT at HCa
    go_wp2_with fail
    refine HCa.out.mono ?_
    rintro e w6 ⟨xa, rfl, hA6, hB6⟩
    have HA6 := Lib.hid hA6.arV
    have HU6 := Lib.hid (HU5.out.on hB6)
    have HT6 := Lib.hid (HT5.out.on hB6)
    have HV6 := Lib.hid (HV5.out.on hB6)
    have HX6 := Lib.hid (HX5.out.on hB6)
    have HB6 := Lib.hid (bseq8 HB5.out hB6)
    obtain ⟨Aa, ca, rfl⟩ := HA6.out.form rfl
    clear hA6 hB6 HU5 HT5 HV5 HX5 HB5 HCa d0 d1 d2 d3 d4
    obtain ⟨d0, d1, d2, d3, d4⟩ := HU6.out.cells
    have HCa := Lib.hid (HBa.out w6 HB6.out _ HX6.out)
    unfold cellsT at HCa
    go_wp2_with fail
    refine HCa.out.mono ?_
    rintro e w7 ⟨xb, rfl, hA7, hB7⟩
    obtain ⟨Ab, cb, rfl⟩ := hA7.arV.form rfl
    have HU7 := Lib.hid (HU6.out.on hB7)
    have HT7 := Lib.hid (HT6.out.on hB7)
    have HV7 := Lib.hid (HV6.out.on hB7)
    have HX7 := Lib.hid (HX6.out.on hB7)
    have HB7 := Lib.hid (bseq8 HB6.out hB7)
    clear hA7 hB7 HA6 HU6 HT6 HV6 HX6 HB6 HCa HBa d0 d1 d2 d3 d4
    generalize bt.1.length = La at *
    generalize bt.2 = e2 at *
    obtain ⟨d0, d1, d2, d3, d4⟩ := (HT7.out.on ((Below.refl _ _).alloc (Nat.le_refl _) (.cells #[.int .u64 i] 44))).cells
    obtain ⟨W8, hW8⟩ : ∃ W8, W8 = ((w7.alloc (.cells #[.int .u64 i] 44)).alloc (.cells (cellsT k1 z1 (.slice A1 n1 c1) (.slice A2 n2 c2) (.slice A3 n3 c3)) 26)).alloc (.cells (cellsT 1 0 (.slice (some ⟨w7.heap.size, 0, none⟩) 1 1) (.slice none 0 0) (.slice (some ⟨w7.heap.size + 1, 0, none⟩) 1 1)) 26) := ⟨_, rfl⟩
    have hB8 : Below w7.heap.size w7 W8 := by rw [hW8]; exact (((Below.refl _ _).alloc (Nat.le_refl _) _).alloc (by simp) _).alloc (by simp; omega) _
    have hG8 : TBox W8 (w7.heap.size + 2) 1 0 (.slice (some ⟨w7.heap.size, 0, none⟩) 1 1) (.slice none 0 0) (.slice (some ⟨w7.heap.size + 1, 0, none⟩) 1 1) := by
      rw [hW8]
      have := TBox.new ((w7.alloc (.cells #[.int .u64 i] 44)).alloc (.cells (cellsT k1 z1 (.slice A1 n1 c1) (.slice A2 n2 c2) (.slice A3 n3 c3)) 26)) 1 0 (.slice (some ⟨w7.heap.size, 0, none⟩) 1 1) (.slice none 0 0) (.slice (some ⟨w7.heap.size + 1, 0, none⟩) 1 1)
      rwa [World.size_alloc, World.size_alloc] at this
    have hY8 : TrV W8 W8.heap.size (overT i T) (.agg (cellsT 1 0 (.slice (some ⟨w7.heap.size, 0, none⟩) 1 1) (.slice none 0 0) (.slice (some ⟨w7.heap.size + 1, 0, none⟩) 1 1))) := by
      have := over_V w7 i (by omega) T _ _ _ _ _ HV7.out
      rw [show (w7.alloc (.cells #[.int .u64 i] 44)).heap.size = w7.heap.size + 1 from World.size_alloc _ _] at this
      rw [hW8]
      exact this.on ((Below.refl _ _).alloc (Nat.le_refl _) _)
    have HG8 := Lib.hid hG8
    have HY8 := Lib.hid hY8
    have HU8 := Lib.hid (HU7.out.on hB8)
    have HT8 := Lib.hid (HT7.out.on hB8)
    have HV8 := Lib.hid (HV7.out.on hB8)
    have HX8 := Lib.hid (HX7.out.on hB8)
    have HB8 := Lib.hid (bseq8 HB7.out hB8)
    clear hB8 hG8 hY8 HU7 HT7 HV7 HX7 HB7
    unfold cellsT at hW8
    go_upto_region 9 with fail
    rw [← hW8]
    clear hW8 d0 d1 d2 d3 d4
    obtain ⟨d0, d1, d2, d3, d4⟩ := (HT8.out.on ((Below.refl _ _).alloc (Nat.le_refl _) (.cells #[.int .u64 J] 44))).cells
    obtain ⟨W9, hW9⟩ : ∃ W9, W9 = ((W8.alloc (.cells #[.int .u64 J] 44)).alloc (.cells (cellsT k1 z1 (.slice A1 n1 c1) (.slice A2 n2 c2) (.slice A3 n3 c3)) 26)).alloc (.cells (cellsT 1 0 (.slice (some ⟨W8.heap.size, 0, none⟩) 1 1) (.slice none 0 0) (.slice (some ⟨W8.heap.size + 1, 0, none⟩) 1 1)) 26) := ⟨_, rfl⟩
    have hB9 : Below W8.heap.size W8 W9 := by rw [hW9]; exact (((Below.refl _ _).alloc (Nat.le_refl _) _).alloc (by simp) _).alloc (by simp; omega) _
    have hH9 : TBox W9 (W8.heap.size + 2) 1 0 (.slice (some ⟨W8.heap.size, 0, none⟩) 1 1) (.slice none 0 0) (.slice (some ⟨W8.heap.size + 1, 0, none⟩) 1 1) := by
      rw [hW9]
      have := TBox.new ((W8.alloc (.cells #[.int .u64 J] 44)).alloc (.cells (cellsT k1 z1 (.slice A1 n1 c1) (.slice A2 n2 c2) (.slice A3 n3 c3)) 26)) 1 0 (.slice (some ⟨W8.heap.size, 0, none⟩) 1 1) (.slice none 0 0) (.slice (some ⟨W8.heap.size + 1, 0, none⟩) 1 1)
      rwa [World.size_alloc, World.size_alloc] at this
    have hZ9 : TrV W9 W9.heap.size (overT J T) (.agg (cellsT 1 0 (.slice (some ⟨W8.heap.size, 0, none⟩) 1 1) (.slice none 0 0) (.slice (some ⟨W8.heap.size + 1, 0, none⟩) 1 1))) := by
      have := over_V W8 J hJb T _ _ _ _ _ HV8.out
      rw [show (W8.alloc (.cells #[.int .u64 J] 44)).heap.size = W8.heap.size + 1 from World.size_alloc _ _] at this
      rw [hW9]
      exact this.on ((Below.refl _ _).alloc (Nat.le_refl _) _)
    have HH9 := Lib.hid hH9
    have HZ9 := Lib.hid hZ9
    have HG9 := Lib.hid (HG8.out.on hB9)
    have HY9 := Lib.hid (HY8.out.on hB9)
    have HU9 := Lib.hid (HU8.out.on hB9)
    have HT9 := Lib.hid (HT8.out.on hB9)
    have HV9 := Lib.hid (HV8.out.on hB9)
    have HX9 := Lib.hid (HX8.out.on hB9)
    have HB9 := Lib.hid (bseq8 HB8.out hB9)
    clear hB9 hH9 hZ9 HG8 HY8 HU8 HT8 HV8 HX8 HB8
    unfold cellsT at hW9
    go_upto_region 10 with fail
    rw [← hW9]
    clear hW9 d0 d1 d2 d3 d4
    obtain ⟨gx, hgx⟩ : ∃ gx, gx = w7.heap.size + 2 := ⟨_, rfl⟩
    obtain ⟨gy, hgy⟩ : ∃ gy, gy = W8.heap.size + 2 := ⟨_, rfl⟩
    rw [← hgx] at HG9 ⊢
    rw [← hgy] at HH9 ⊢
    clear hgx hgy
    obtain ⟨d0, d1, d2, d3, d4⟩ := HG9.out.cells
    have HCa := Lib.hid (HBx.out W9 HB9.out _ HY9.out)
    unfold cellsT at HCa
    go_wp2_with fail
    refine HCa.out.mono ?_
    rintro e w10 ⟨xp, rfl, hA10, hB10⟩
    obtain ⟨Ap, cp, rfl⟩ := hA10.arV.form rfl
    have HP10 := Lib.hid hA10
    have HH10 := Lib.hid (HH9.out.on hB10)
    have HZ10 := Lib.hid (HZ9.out.on hB10)
    have HG10 := Lib.hid (HG9.out.on hB10)
    have HY10 := Lib.hid (HY9.out.on hB10)
    have HU10 := Lib.hid (HU9.out.on hB10)
    have HT10 := Lib.hid (HT9.out.on hB10)
    have HV10 := Lib.hid (HV9.out.on hB10)
    have HX10 := Lib.hid (HX9.out.on hB10)
    have HB10 := Lib.hid (bseq8 HB9.out hB10)
    clear hB10 hA10 HH9 HZ9 HG9 HY9 HU9 HT9 HV9 HX9 HB9 HCa HBx d0 d1 d2 d3 d4
    obtain ⟨d0, d1, d2, d3, d4⟩ := HH10.out.cells
    have HCa := Lib.hid (HBy.out w10 HB10.out _ HZ10.out)
    unfold cellsT at HCa
    go_wp2_with fail
    refine HCa.out.mono ?_
    rintro e w11 ⟨xq, rfl, hA11, hB11⟩
    obtain ⟨Aq, cq, rfl⟩ := hA11.arV.form rfl
    have HP11 := Lib.hid (HP10.out.on hB11)
    have HQ11 := Lib.hid hA11
    have HH11 := Lib.hid (HH10.out.on hB11)
    have HZ11 := Lib.hid (HZ10.out.on hB11)
    have HG11 := Lib.hid (HG10.out.on hB11)
    have HY11 := Lib.hid (HY10.out.on hB11)
    have HU11 := Lib.hid (HU10.out.on hB11)
    have HT11 := Lib.hid (HT10.out.on hB11)
    have HV11 := Lib.hid (HV10.out.on hB11)
    have HX11 := Lib.hid (HX10.out.on hB11)
    have HB11 := Lib.hid (bseq8 HB10.out hB11)
    clear hB11 hA11 HP10 HH10 HZ10 HG10 HY10 HU10 HT10 HV10 HX10 HB10 HCa HBy d0 d1 d2 d3 d4
    obtain ⟨ln, hln⟩ : ∃ ln, ln = l.length := ⟨_, rfl⟩
    have hln3 : 3 ≤ ln := by rw [hln, HB3.out]; omega
    obtain ⟨A', c', e, hc1, hcm, hseg⟩ := HP11.out.arV
    cases e
    obtain ⟨bp, op, rfl, hbp, hseg⟩ := hseg (by simp)
    obtain ⟨s1, p0, hs1⟩ := hseg 0 (by simp)
    obtain ⟨A21, c21, rfl, hk1, hm1, hwp⟩ := hs1
    have e1 : (([l] : List (List Int))[0]?.getD []) = l := rfl
    rw [e1] at p0 hk1 hwp
    rw [← hln] at p0 hk1 hwp
    obtain ⟨gp, o21, rfl, hgp, hwp⟩ := hwp (by omega)
    obtain ⟨A', c', e, hc2, hcm2, hseg⟩ := HQ11.out.arV
    cases e
    obtain ⟨bq, oq, rfl, hbq, hseg⟩ := hseg (by simp)
    obtain ⟨s1, q0, hs1⟩ := hseg 0 (by simp)
    obtain ⟨A22, c22, rfl, hk2, hm2, hwq⟩ := hs1
    have e1 : (([l.set 1 J] : List (List Int))[0]?.getD []) = l.set 1 J := rfl
    rw [e1] at q0 hk2 hwq
    rw [List.length_set, ← hln] at q0 hk2 hwq
    obtain ⟨gq, o22, rfl, hgq, hwq⟩ := hwq (by omega)
    rw [Nat.add_zero] at p0 q0
    have HC : Hid (∀ X, Below w11.heap.size w11 X → X.cell? ⟨bp, op, none⟩ = some (.slice (some ⟨gp, o21, none⟩) ln c21) ∧ X.cell? ⟨bq, oq, none⟩ = some (.slice (some ⟨gq, o22, none⟩) ln c22) ∧ (∀ j, j < ln → X.cell? ⟨gp, o21 + j, none⟩ = some (.int .u64 (l[j]?.getD 0)) ∧ X.cell? ⟨gq, o22 + j, none⟩ = some (.int .u64 ((l.set 1 J)[j]?.getD 0)))) := Lib.hid (fun X hX => ⟨(hX.cell (p := ⟨bp, op, none⟩) hbp).trans p0, (hX.cell (p := ⟨bq, oq, none⟩) hbq).trans q0, fun j hj => ⟨(hX.cell (p := ⟨gp, o21 + j, none⟩) hgp).trans (hwp j hj), (hX.cell (p := ⟨gq, o22 + j, none⟩) hgq).trans (hwq j hj)⟩⟩)
    have hcp : 1 ≤ cp := by simpa using hc1
    have hcq : 1 ≤ cq := by simpa using hc2
    have HLn := Lib.hid hln
    clear hwp hwq hseg hc1 hc2 hln HP11 HQ11 hbp hbq hgp hgq
    go_wp2_with fail
    go_quiet (fail)
    have hB12 : Below w11.heap.size w11 (w11.drewN nq) := below_drewN (Below.refl _ _) _
    generalize w11.drewN nq = W12 at *
    have HB12 := Lib.hid hB12
    clear hB12 p0 q0
    obtain ⟨p0, q0, -⟩ := HC.out _ HB12.out
    go_wp2_with fail
    clear p0 q0
    go_loopw [22, 23] (fun s22 i wr => ∃ j : Nat, j ≤ ln ∧ i = .int .i64 j ∧ (∃ a : Nat, s22 = .int .i64 a ∧ ((j ≤ 1 ∧ a = 0) ∨ (1 < j ∧ a = 1))) ∧ Below w11.heap.size w11 wr) (fun _ i _ => ln - (intOf i).toNat)
    case atStart => exact ⟨0, by omega, rfl, ⟨0, rfl, .inl ⟨by omega, rfl⟩⟩, HB12.out⟩
    case round =>
      obtain ⟨j, hj, rfl, ⟨a, rfl, ha⟩, hBr⟩ := hrel
      generalize wr = W at *
      obtain ⟨p0, q0, hw⟩ := HC.out _ hBr
      have HBr := Lib.hid hBr
      clear hBr
      by_cases hlt : j < ln
      · have i1 : (j : Int) < (ln : Int) := by omega
        obtain ⟨u1, u2⟩ := hw j hlt
        rw [getD_set (by rw [← HLn.out]; omega)] at u2
        by_cases e1 : j = 1
        · subst e1
          obtain rfl : a = 0 := by omega
          rw [if_pos rfl] at u2
          rw [HB4.out, Option.getD_some] at u1
          have j1 : ((i : Int) == J) = false := beq_eq_false_iff_ne.2 HJ.out
          clear ha hw
          go_wp2_with fail
          go_quiet (fail)
          have hB13 := below_drewN HBr.out nq
          generalize W.drewN nq = W13 at *
          have HB13 := Lib.hid hB13
          clear hB13
          go_wp2_with fail
          go_roundw
          case rel => exact ⟨2, by omega, by go_num, ⟨1, by go_num, .inr ⟨by omega, rfl⟩⟩, HB13.out⟩
          case measure => simp [intOf]; omega
        · rw [if_neg (by omega)] at u2
          generalize l[j]?.getD 0 = X at *
          have HA := Lib.hid ha
          clear ha hw
          go_wp2_with fail
          go_quiet (fail)
          have hB13 := below_drewN HBr.out nq
          generalize W.drewN nq = W13 at *
          have HB13 := Lib.hid hB13
          clear hB13
          go_wp2_with fail
          go_roundw
          case rel => exact ⟨j + 1, by omega, by go_num, ⟨a, rfl, by have := HA.out; omega⟩, HB13.out⟩
          case measure => simp [intOf]; omega
      · obtain ⟨rfl, rfl⟩ : j = ln ∧ a = 1 := by constructor <;> omega
        have i1 : ¬ (j : Int) < (j : Int) := by omega
        clear ha hlt hj hw
        have HV := Lib.hid (HV11.out.on HBr.out)
        have HX := Lib.hid (HX11.out.on HBr.out)
        have HY := Lib.hid (HY11.out.on HBr.out)
        have HZ := Lib.hid (HZ11.out.on HBr.out)
        have HT := Lib.hid (HT11.out.on HBr.out)
        have HU := Lib.hid (HU11.out.on HBr.out)
        have HG := Lib.hid (HG11.out.on HBr.out)
        have HH := Lib.hid (HH11.out.on HBr.out)
        have HB := Lib.hid (bseq8 HB11.out HBr.out)
        clear HV11 HX11 HY11 HZ11 HT11 HU11 HG11 HH11
        go_wp2_with fail
        refine (HKn.out _ HB.out).mono ?_
        rintro e w14 ⟨rfl, hB14⟩
        have HB14 := Lib.hid hB14
        clear hB14
        obtain ⟨d0, d1, d2, d3, d4⟩ := (HT.out.on HB14.out).cells
        obtain ⟨g0, g1, g2, g3, g4⟩ := (HU.out.on HB14.out).cells
        have HS1 := Lib.hid (HSame.out w14 _ _ (HV.out.on HB14.out) (HX.out.on HB14.out))
        unfold cellsT at HS1
        go_wp2_with fail
        refine HS1.out.mono ?_
        rintro e w15 ⟨rfl, hB15⟩
        have HB15 := Lib.hid (bseq8 HB14.out hB15)
        clear hB15 d0 d1 d2 d3 d4 g0 g1 g2 g3 g4 HS1
        obtain ⟨d0, d1, d2, d3, d4⟩ := (HG.out.on HB15.out).cells
        obtain ⟨g0, g1, g2, g3, g4⟩ := (HH.out.on HB15.out).cells
        have HS1 := Lib.hid (HOver.out w15 _ _ (HY.out.on HB15.out) (HZ.out.on HB15.out))
        unfold cellsT at HS1
        go_wp2_with fail
        refine HS1.out.mono ?_
        rintro e w16 ⟨rfl, hB16⟩
        have HB16 := Lib.hid (bseq8 HB.out (bseq8 HB15.out hB16))
        clear hB16
        go_wp2_with fail
        go_ret
        exact ⟨by simp, HB16.out⟩

end Go.Proofs.YtofpjcmcpejnfaaDoor
