/-
  Layer 10: the law TreeBack.
-/
import Derived.Test.YtdfldfnjjjcleaaDoorZTeKnown
import Derived.Test.YtdfldfnjjjcleaaDoorZTdUbd
import Derived.Test.YtdfldfnjjjcleaaDoorZTrGenE

namespace Go.Proofs.YtdfldfnjjjcleaaDoor
open Go.RowKit Go.Deep

mutual
theorem same10_refl : (t : Tr) → sameT t t = true
  | .mk k z w b ks => by
    unfold sameT
    rw [sameAll10_refl ks]
    simp
theorem sameAll10_refl : (l : List Tr) → sameAll l l = true
  | [] => rfl
  | t :: r => by
    unfold sameAll
    rw [same10_refl t, sameAll10_refl r]
    rfl
end
/-- what is built of choices, and decoded -/
theorem back_of {c : List Int} (hc : c.length ≤ 200) (hb : InB c) (z : Nat) (h1 : 1 ≤ z) (h2 : z ≤ 4096) :
    AllU10 (buildT (treeC 9 c).1 (z : Int)).1 ∧ (buildT (treeC 9 c).1 (z : Int)).1.length ≤ 1000000000 ∧ ((buildT (treeC 9 c).1 (z : Int)).2 = 0 ∨ (buildT (treeC 9 c).1 (z : Int)).2 = 24) ∧ ((buildT (treeC 9 c).1 (z : Int)).2 = 0 → decodeT (buildT (treeC 9 c).1 (z : Int)).1 = ((treeC 9 c).1, 0)) := by
  obtain ⟨c1, c2, c3⟩ := treeC_cheap 9 c
  obtain ⟨s1, -, s3, -⟩ := build_sizes (sz := z) (tree_right c) h1 h2
  refine ⟨build_ub (treeC_ub 9 c hb).1 _, by omega, s1.elim (fun h => .inl h.1) (fun h => .inr h.1), fun he => build_back he c3 (by omega)⟩
theorem back_whole {c : List Int} (hc : c.length ≤ 200) : (buildT (treeC 9 c).1 ((4096 : Nat) : Int)).2 = 0 := by
  have h := (treeC_fine 9 c).2.2
  obtain ⟨l, h1, -⟩ := build_one (sz := 4096) (tree_right c) (by omega) (by omega) (by omega)
  rw [h1]

theorem wrapsB {k z : Nat} (hz : z = 2 + k % 60) : wrap64 (2 + (k : Int) % 60) = (z : Int) ∧ IntKind.i64.wrap (2 + (k : Int) % 60) = (z : Int) := by
  refine ⟨?_, ?_⟩
  · unfold wrap64; omega
  · rw [IntWalk.i64_in _ (by omega)]; omega

set_option maxRecDepth 100000 in
set_option maxHeartbeats 4000000 in
theorem back10_walk (c : List Int) (v : Value) (k : Nat) (w : World) (h : Bytes w w.heap.size v c) (hb : AllB c) (L : Laid w) :
    Calls Tryd.prog 5 #[v, .int .u8 k] w fun e w' => e = .returned (.bool true) ∧ Below w.heap.size w w' := by
  have HK := Lib.hid (fun X (hX : Below w.heap.size w X) => known10_any X (L.on hX))
  obtain ⟨A, cc, rfl⟩ := h.form rfl
  by_cases hlen : 200 < c.length
  · have hlen2 : (200 : Int) < (c.length : Int) := by omega
    generalize c.length = len at *
    clear h hb L hlen
    go_enter Tryd.func5, Tryd.ntmps5
    go_wp2_with fail
    refine (HK.out w (Below.refl _ _)).mono ?_
    rintro e w2 ⟨rfl, hB2⟩
    go_wp2_with fail
    go_ret
    exact ⟨rfl, hB2⟩
  · have hlen2 : ¬ (200 : Int) < (c.length : Int) := by omega
    obtain ⟨z, hz⟩ : ∃ z : Nat, z = 2 + k % 60 := ⟨_, rfl⟩
    have hwz : Hid (wrap64 (2 + (k : Int) % 60) = (z : Int) ∧ IntKind.i64.wrap (2 + (k : Int) % 60) = (z : Int)) := Lib.hid (wrapsB hz)
    have hin : InB c := hb
    obtain ⟨u1, u2, u3, u4⟩ := back_of (by omega) hin z (by omega) (by omega)
    obtain ⟨v1, v2, -, v4⟩ := back_of (c := c) (by omega) hin 4096 (by omega) (by omega)
    have v0 := back_whole (c := c) (by omega)
    have v5 := v4 v0
    have HTr := Lib.hid (tree_all 9 (by omega) c _ w w.heap.size (Nat.le_refl _) h hb)
    have HSr := Lib.hid (same10_refl (treeC 9 c).1)
    generalize (treeC 9 c).1 = t at *
    generalize (treeC 9 c).2 = rest at *
    have HBz := Lib.hid (fun X v (hv : TrV X X.heap.size t v) => rbuild_any t v (z : Int) X hv)
    have HBy := Lib.hid (fun X v (hv : TrV X X.heap.size t v) => rbuild_any t v ((4096 : Nat) : Int) X hv)
    rw [v0] at HBy
    rw [show ((4096 : Nat) : Int) = 4096 from rfl] at HBy v1 v2 v5
    generalize buildT t (4096 : Int) = by_ at *
    generalize buildT t (z : Int) = bz at *
    obtain ⟨lz, ez⟩ := bz
    obtain ⟨ly, ey⟩ := by_
    dsimp only at u1 u2 u3 u4 v1 v2 v5 HBz HBy
    have HDz := Lib.hid (fun X (hX : Below w.heap.size w X) v (hv : ArV X X.heap.size v lz) => decode_any v lz X (L.on hX) hv u2 u1)
    have HDy := Lib.hid (fun X (hX : Below w.heap.size w X) v (hv : ArV X X.heap.size v ly) => decode_any v ly X (L.on hX) hv v2 v1)
    rw [v5] at HDy
    have HSm := Lib.hid (fun X u x (hu : TrV X X.heap.size t u) (hx : TrV X X.heap.size t x) => rsame8_any t t u x X hu hx)
    rw [HSr.out] at HSm
    obtain ⟨hwz2, hwz3⟩ := hwz.out
    have HU3 := Lib.hid u3
    generalize decodeT lz = dz at *
    have HU4 := Lib.hid u4
    obtain ⟨dt, de⟩ := dz
    try dsimp only at u4
    generalize c.length = len at *
    clear h hb L hlen hin u1 u2 u3 u4 v0 v1 v2 v4 v5 hz
    go_enter Tryd.func5, Tryd.ntmps5
    go_wp2_with fail
    refine HTr.out.mono ?_
    rintro e w1 ⟨x', y', rfl, hP1, hy1, hB1⟩
    obtain ⟨Ay, cy, rfl⟩ := hy1.form rfl
    obtain ⟨k2, z2, A1, n1, c1, A2, n2, c2, A3, n3, c3, rfl⟩ := hP1.parts
    unfold cellsT
    dsimp only
    obtain ⟨w2, hw2⟩ : ∃ w2, w2 = w1.alloc (.cells #[.int .i64 k2, .int .i64 z2, .slice A1 n1 c1, .slice A2 n2 c2, .slice A3 n3 c3] 37) := ⟨_, rfl⟩
    have hB2 : Below w1.heap.size w1 w2 := by rw [hw2]; exact (Below.refl _ _).alloc (Nat.le_refl _) _
    have HT2 : Hid (TBox w2 w1.heap.size k2 z2 (.slice A1 n1 c1) (.slice A2 n2 c2) (.slice A3 n3 c3)) := Lib.hid (by rw [hw2]; exact TBox.new _ _ _ _ _ _)
    have HV2 := Lib.hid ((TrP.trV (fun b hb => hb.2) _ _ hP1).on hB2)
    have HB2 := Lib.hid (bseq8 hB1 hB2)
    generalize rest.length = nr at *
    clear hP1 hy1 hB1 hB2
    go_upto_region 4 with fail
    rw [← hw2]
    clear hw2
    obtain ⟨d0, d1, d2, d3, d4⟩ := HT2.out.cells
    have hC := HBz.out w2 _ HV2.out
    unfold cellsT at hC
    have HC := Lib.hid hC
    clear hC
    go_wp2_with fail
    with_reducible refine HC.out.mono ?_
    rintro e w3 ⟨Aa, na, ca, rfl, ha3, hB3⟩
    have HB3 := Lib.hid hB3
    have HA3 := Lib.hid ha3
    have hC := HBy.out w3 _ (HV2.out.on hB3)
    unfold cellsT at hC
    have HC2 := Lib.hid hC
    clear hC hB3 ha3 d0 d1 d2 d3 d4
    obtain ⟨d0, d1, d2, d3, d4⟩ := (HT2.out.on HB3.out).cells
    go_wp2_with fail
    with_reducible refine HC2.out.mono ?_
    rintro e w4 ⟨Ab, nb, cb, rfl, hb4, hB4⟩
    have HB4 := Lib.hid (bseq8 HB3.out hB4)
    have HC3 := Lib.hid (HDz.out w4 (bseq8 HB2.out HB4.out) _ (HA3.out.on hB4))
    have HA4 := Lib.hid hb4
    clear hB4 hb4 d0 d1 d2 d3 d4
    go_wp2_with fail
    with_reducible refine HC3.out.mono ?_
    unfold TrER
    rintro e w5 ⟨u, rfl, hP5, hB5⟩
    obtain ⟨k5, z5, A7, n7, c7, A8, n8, c8, A9, n9, c9, rfl⟩ := hP5.parts
    unfold cellsT
    dsimp only
    obtain ⟨w6, hw6⟩ : ∃ w6, w6 = w5.alloc (.cells #[.int .i64 k5, .int .i64 z5, .slice A7 n7 c7, .slice A8 n8 c8, .slice A9 n9 c9] 37) := ⟨_, rfl⟩
    have hB6 : Below w5.heap.size w5 w6 := by rw [hw6]; exact (Below.refl _ _).alloc (Nat.le_refl _) _
    have HT6 : Hid (TBox w6 w5.heap.size k5 z5 (.slice A7 n7 c7) (.slice A8 n8 c8) (.slice A9 n9 c9)) := Lib.hid (by rw [hw6]; exact TBox.new _ _ _ _ _ _)
    have HV6 := Lib.hid ((TrP.trV (fun b hb => hb.2) _ _ hP5).on hB6)
    have HB6 := Lib.hid (bseq8 HB4.out (bseq8 hB5 hB6))
    have HC4 := Lib.hid (HDy.out w6 (bseq8 HB2.out HB6.out) _ (HA4.out.on (bseq8 hB5 hB6)))
    clear hP5 hB5 hB6
    go_upto_region 7 with fail
    rw [← hw6]
    clear hw6
    go_wp2_with fail
    with_reducible refine HC4.out.mono ?_
    unfold TrER
    rintro e w7 ⟨u2, rfl, hP7, hB7⟩
    obtain ⟨kA, zA, B7, m7, q7, B8, m8, q8, B9, m9, q9, rfl⟩ := hP7.parts
    unfold cellsT
    dsimp only
    obtain ⟨w8, hw8⟩ : ∃ w8, w8 = w7.alloc (.cells #[.int .i64 kA, .int .i64 zA, .slice B7 m7 q7, .slice B8 m8 q8, .slice B9 m9 q9] 37) := ⟨_, rfl⟩
    have hB8 : Below w7.heap.size w7 w8 := by rw [hw8]; exact (Below.refl _ _).alloc (Nat.le_refl _) _
    have HT8 : Hid (TBox w8 w7.heap.size kA zA (.slice B7 m7 q7) (.slice B8 m8 q8) (.slice B9 m9 q9)) := Lib.hid (by rw [hw8]; exact TBox.new _ _ _ _ _ _)
    have HV8 := Lib.hid ((TrP.trV (fun b hb => hb.2) _ _ hP7).on hB8)
    have HC8 := Lib.hid (bseq8 hB7 hB8)
    have HB8 := Lib.hid (bseq8 HB6.out HC8.out)
    clear hP7 hB7 hB8
    go_upto_region 8 with fail
    rw [← hw8]
    clear hw8
    go_wp2_with fail
    refine (HK.out w8 (bseq8 HB2.out HB8.out)).mono ?_
    rintro e w9 ⟨rfl, hB9⟩
    have HT9 := Lib.hid (HT8.out.on hB9)
    have HV9 := Lib.hid (HV8.out.on hB9)
    have HC9 := Lib.hid (bseq8 HC8.out hB9)
    have HB9 := Lib.hid (bseq8 HB8.out hB9)
    have hC := HSm.out w9 _ _ HV9.out (HV2.out.on HB9.out)
    unfold cellsT at hC
    have HS9 := Lib.hid hC
    obtain ⟨d0, d1, d2, d3, d4⟩ := (HT2.out.on HB9.out).cells
    obtain ⟨e0, e1, e2, e3, e4⟩ := HT9.out.cells
    clear hC hB9
    rcases HU3.out with h0 | h0
    · subst h0
      have hdt := HU4.out rfl
      injection hdt with hd1 hd2
      subst hd1 hd2
      go_wp2_with fail
      with_reducible refine HS9.out.mono ?_
      rintro e w10 ⟨rfl, hB10⟩
      have HB10 := Lib.hid (bseq8 HB9.out hB10)
      have hC := HSm.out w10 _ _ (HV6.out.on (bseq8 HC9.out hB10)) (HV2.out.on HB10.out)
      unfold cellsT at hC
      have HS10 := Lib.hid hC
      clear hC d0 d1 d2 d3 d4 e0 e1 e2 e3 e4
      obtain ⟨d0, d1, d2, d3, d4⟩ := (HT2.out.on HB10.out).cells
      obtain ⟨e0, e1, e2, e3, e4⟩ := (HT6.out.on (bseq8 HC9.out hB10)).cells
      clear hB10
      go_wp2_with fail
      with_reducible refine HS10.out.mono ?_
      rintro e w11 ⟨rfl, hB11⟩
      have HB11 := Lib.hid (bseq8 HB2.out (bseq8 HB10.out hB11))
      clear hB11 d0 d1 d2 d3 d4 e0 e1 e2 e3 e4
      go_wp2_with fail
      go_ret
      exact ⟨rfl, HB11.out⟩
    · subst h0
      go_wp2_with fail
      with_reducible refine HS9.out.mono ?_
      rintro e w10 ⟨rfl, hB10⟩
      have HB10 := Lib.hid (bseq8 HB2.out (bseq8 HB9.out hB10))
      clear hB10 d0 d1 d2 d3 d4 e0 e1 e2 e3 e4
      go_wp2_with fail
      go_ret
      exact ⟨rfl, HB10.out⟩

end Go.Proofs.YtdfldfnjjjcleaaDoor
