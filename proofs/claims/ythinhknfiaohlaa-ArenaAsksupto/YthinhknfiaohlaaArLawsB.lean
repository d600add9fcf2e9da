/-
  Layer 7: the walk of ArenaAsks.
-/
import Derived.Test.YthinhknfiaohlaaArAsks
import Derived.Test.YthinhknfiaohlaaArGenB
namespace Go.Proofs.Ythinhknfiaohlaa
open Go.RowKit Go.Deep

set_option maxRecDepth 100000 in
set_option maxHeartbeats 2000000 in
theorem aasks_walk {K : World → Prop} (T : ArenaOK K) (v u vc : Value) (la lb : List (List Int)) (c : List Int) (g a : Int) (n : Nat) (w : World) (h : ArV w w.heap.size v la) (h' : ArV w w.heap.size u lb) (hs : Sm la) (hs' : Sm lb)
    (hb : Bytes w w.heap.size vc c) (hc : AllB c) (g1 : In64 g) (a1 : In64 a) (hn : n < 256) (hK : K w) :
    Calls Try.prog 3 #[v, u, vc, .int .i64 g, .int .i64 a, .int .u8 n] w fun e w' => e = .returned (.bool true) ∧ Below w.heap.size w w' := by
  have HT := Lib.hid T
  have HK := Lib.hid hK
  have HV := Lib.hid h
  have HU := Lib.hid h'
  have HS := Lib.hid hs
  have HS' := Lib.hid hs'
  have HB := Lib.hid hb
  have HC := Lib.hid hc
  have HG := Lib.hid g1
  have HA := Lib.hid a1
  have HN := Lib.hid hn
  have HX := Lib.hid (arL_sm hc n)
  have HI : Hid (In64 ((n : Int) % 6) ∧ In64 ((n : Int) % 13)) := Lib.hid (by unfold In64; omega)
  obtain ⟨A1, c1, rfl, -⟩ := h
  obtain ⟨A2, c2, rfl, -⟩ := h'
  obtain ⟨A3, c3, rfl, -⟩ := hb
  generalize la.length = m1 at *
  generalize lb.length = m2 at *
  generalize c.length = m3 at *
  obtain ⟨S1, hS1⟩ : ∃ S, (sizesL la).sum = S := ⟨_, rfl⟩
  obtain ⟨S2, hS2⟩ : ∃ S, (sizesL lb).sum = S := ⟨_, rfl⟩
  have HS1 := Lib.hid hS1
  have HS2 := Lib.hid hS2
  have b1 : 0 ≤ S1 ∧ S1 ≤ 1000000000 := by rw [← hS1]; exact ⟨sum_nonneg (sizesL_pos la), hs.2.1⟩
  have b2 : 0 ≤ S2 ∧ S2 ≤ 1000000000 := by rw [← hS2]; exact ⟨sum_nonneg (sizesL_pos lb), hs'.2.1⟩
  have hw : IntKind.i64.wrap (S1 + S2) = S1 + S2 := IntWalk.i64_in _ (by omega)
  clear T hK hs hs' hc g1 a1 hS1 hS2
  by_cases hbig : 500 < S1 + S2
  · have d1 : decide (500 < S1 + S2) = true := decide_eq_true hbig
    go_enter Try.func3, Try.ntmps3
    go_wp2_with fail
    refine (lwords_any _ la _ w HV.out (by have := HS.out.2.1; omega)).mono ?_
    rintro e w' ⟨rfl, rfl⟩
    rw [HS1.out]
    go_wp2_with fail
    refine (lwords_any _ lb _ w HU.out (by have := HS'.out.2.1; omega)).mono ?_
    rintro e w' ⟨rfl, rfl⟩
    rw [HS2.out]
    go_wp2_with fail
    refine (known7_any HT.out w HK.out).mono ?_
    rintro e w1 ⟨rfl, hB1⟩
    go_wp2_with fail
    go_ret
    exact ⟨rfl, hB1⟩
  · have d1 : decide (500 < S1 + S2) = false := decide_eq_false hbig
    obtain ⟨Q, hQ⟩ : ∃ Q, sameA la lb = Q := ⟨_, rfl⟩
    have HQ := Lib.hid hQ
    have d2 : (Q == Q) = true := by simp
    have HSl : Hid (sameA (arL c n) (arL c n) = true) := Lib.hid (decide_eq_true rfl)
    clear hQ
    go_enter Try.func3, Try.ntmps3
    go_wp2_with fail
    refine (lwords_any _ la _ w HV.out (by have := HS.out.2.1; omega)).mono ?_
    rintro e w' ⟨rfl, rfl⟩
    rw [HS1.out]
    go_wp2_with fail
    refine (lwords_any _ lb _ w HU.out (by have := HS'.out.2.1; omega)).mono ?_
    rintro e w' ⟨rfl, rfl⟩
    rw [HS2.out]
    go_wp2_with fail
    refine (known7_any HT.out w HK.out).mono ?_
    rintro e w1 ⟨rfl, hB1⟩
    go_wp2_with fail
    refine (gen_any _ c n w1 (HB.out.on hB1) HC.out HN.out).mono ?_
    rintro e w2 ⟨x, rfl, ho, hB2⟩
    have hC2 := bsq hB1 hB2
    have HXv := Lib.hid ho.arV
    clear ho
    go_wp2_with fail
    refine (asks7_any HT.out _ la g a w2 (HV.out.on hC2) HS.out HG.out HA.out (HT.out.on HK.out hC2)).mono ?_
    rintro e w3 ⟨rfl, hB3⟩
    have hC3 := bsq hC2 hB3
    have HX3 := Lib.hid (HXv.out.on hB3)
    go_wp2_with fail
    refine (asks7_any HT.out _ (arL c n) g a w3 HX3.out HX.out HG.out HA.out (HT.out.on HK.out hC3)).mono ?_
    rintro e w4 ⟨rfl, hB4⟩
    have hC4 := bsq hC3 hB4
    have HX4 := Lib.hid (HX3.out.on hB4)
    go_wp2_with fail
    refine (asks7_any HT.out _ (arL c n) ((n : Int) % 6) ((n : Int) % 13) w4 HX4.out HX.out HI.out.1 HI.out.2 (HT.out.on HK.out hC4)).mono ?_
    rintro e w5 ⟨rfl, hB5⟩
    have hC5 := bsq hC4 hB5
    have HX5 := Lib.hid (HX4.out.on hB5)
    go_wp2_with fail
    refine (HT.out.same _ _ la lb w5 (HV.out.on hC5) (HU.out.on hC5) HS.out HS'.out (HT.out.on HK.out hC5)).mono ?_
    rintro e w6 ⟨rfl, hB6⟩
    have hC6 := bsq hC5 hB6
    have HX6 := Lib.hid (HX5.out.on hB6)
    rw [HQ.out]
    go_wp2_with fail
    refine (rsame7_any _ _ la lb w6 (HV.out.on hC6) (HU.out.on hC6)).mono ?_
    rintro e w7 ⟨rfl, hB7⟩
    have hC7 := bsq hC6 hB7
    have HX7 := Lib.hid (HX6.out.on hB7)
    rw [HQ.out]
    go_wp2_with fail
    refine (gen_any _ c n w7 (HB.out.on hC7) HC.out HN.out).mono ?_
    rintro e w8 ⟨y, rfl, ho, hB8⟩
    have hC8 := bsq hC7 hB8
    have HYv := Lib.hid ho.arV
    have HX8 := Lib.hid (HX7.out.on hB8)
    clear ho
    go_wp2_with fail
    refine (HT.out.same _ _ (arL c n) (arL c n) w8 HX8.out HYv.out HX.out HX.out (HT.out.on HK.out hC8)).mono ?_
    rintro e w9 ⟨rfl, hB9⟩
    have hC9 := bsq hC8 hB9
    rw [HSl.out]
    go_wp2_with fail
    go_ret
    exact ⟨rfl, hC9⟩

end Go.Proofs.Ythinhknfiaohlaa
