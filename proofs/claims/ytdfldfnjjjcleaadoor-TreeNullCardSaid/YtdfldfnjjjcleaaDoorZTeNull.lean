/-
  Layer 10: the law TreeNull.
-/
import Derived.Test.YtdfldfnjjjcleaaDoorZTeKnown
import Derived.Test.YtdfldfnjjjcleaaDoorZTdPlain
import Derived.Test.YtdfldfnjjjcleaaDoorZTrGenE
import Derived.Test.YtdfldfnjjjcleaaDoorZRdC

namespace Go.Proofs.YtdfldfnjjjcleaaDoor
open Go.RowKit Go.Deep

theorem zeros10_ar (w : World) (m : Nat) (hm : m ≤ 1000) : ∀ X, X = (w.alloc (.cells (madeCells #[.int .u64 0] m) 53)).alloc (.cells #[.slice (some ⟨w.heap.size, 0, none⟩) m m] 34) → ArV X X.heap.size (.slice (some ⟨w.heap.size + 1, 0, none⟩) 1 1) [List.replicate m 0] := by
  rintro _ rfl
  have hr := World.rowIs_made w (.int .u64 0) m 53
  have hz : (w.alloc (.cells (madeCells #[.int .u64 0] m) 53)).heap.size = w.heap.size + 1 := World.size_alloc _ _
  generalize w.alloc (.cells (madeCells #[.int .u64 0] m) 53) = X at *
  have hzz : (X.alloc (.cells #[.slice (some ⟨w.heap.size, 0, none⟩) m m] 34)).heap.size = X.heap.size + 1 := World.size_alloc _ _
  refine ⟨_, 1, rfl, by simp, by omega, fun _ => ⟨w.heap.size + 1, 0, rfl, by omega, fun j hj => ?_⟩⟩
  obtain rfl : j = 0 := by simp at hj; omega
  refine ⟨.slice (some ⟨w.heap.size, 0, none⟩) m m, ?_, ⟨_, m, by simp, by simp, by omega, fun _ => ⟨w.heap.size, 0, rfl, by omega, fun i hi => ?_⟩⟩⟩
  · have hb : (X.alloc (.cells #[.slice (some ⟨w.heap.size, 0, none⟩) m m] 34)).heap[w.heap.size + 1]? = some (.cells #[.slice (some ⟨w.heap.size, 0, none⟩) m m] 34 (0, 0)) := by rw [← hz]; exact blk_alloc_new _ _
    unfold World.cell?
    dsimp only
    rw [hb]
    rfl
  · have hi2 : i < m := by simpa using hi
    have := (hr.alloc (.cells #[.slice (some ⟨w.heap.size, 0, none⟩) m m] 34)).cell hi2
    rw [Nat.zero_add, this]
    simp [hi2]
theorem zeros10_ok (m : Nat) : AllU [List.replicate m 0] := by
  intro s hs x hx
  simp at hs
  subst hs
  obtain rfl := List.eq_of_mem_replicate hx
  decide
/-- a thing over one Kid -/
theorem over_V {w : World} {x : Tr} {n1 n2 n3 c1 c2 c3 : Nat} {A1 A2 A3 : Option Addr} {kx zx : Int} (h : TrV w w.heap.size x (.agg (cellsT kx zx (.slice A1 n1 c1) (.slice A2 n2 c2) (.slice A3 n3 c3)))) :
    ∀ X, X = w.alloc (.cells #[.int .i64 kx, .int .i64 zx, .slice A1 n1 c1, .slice A2 n2 c2, .slice A3 n3 c3] 37) → TrV X X.heap.size (.mk 1 0 [] [] [x]) (.agg (cellsT 1 0 (.slice none 0 0) (.slice none 0 0) (.slice (some ⟨w.heap.size, 0, none⟩) 1 1))) := by
  rintro X rfl
  have hs : (w.alloc (.cells #[.int .i64 kx, .int .i64 zx, .slice A1 n1 c1, .slice A2 n2 c2, .slice A3 n3 c3] 37)).heap.size = w.heap.size + 1 := World.size_alloc _ _
  have hb : (w.alloc (.cells #[.int .i64 kx, .int .i64 zx, .slice A1 n1 c1, .slice A2 n2 c2, .slice A3 n3 c3] 37)).heap[w.heap.size]? = some (.cells #[.int .i64 kx, .int .i64 zx, .slice A1 n1 c1, .slice A2 n2 c2, .slice A3 n3 c3] 37 (0, 0)) := blk_alloc_new _ _
  unfold TrV
  refine ⟨_, _, _, 1, rfl, ⟨⟨by decide, by decide⟩, ⟨by decide, by decide⟩, by simp, by simp, by simp, by simp, by simp⟩, NumS.nil _ _ _, ⟨none, 0, rfl, by simp, by omega, fun h => by simp at h⟩, by simp, by omega, fun _ => ⟨w.heap.size, 0, rfl, by omega, ?_⟩⟩
  unfold KidsAt KidsAt
  refine ⟨⟨kx, zx, .slice A1 n1 c1, .slice A2 n2 c2, .slice A3 n3 c3, ?_, ?_, ?_, ?_, ?_, h.on ((Below.refl _ _).alloc (Nat.le_refl _) _)⟩, trivial⟩ <;> (unfold World.cell?; dsimp only; rw [hb]; rfl)
theorem over_fine {x : Tr} (h : FineT x) : FineT (.mk 1 0 [] [] [x]) := by
  unfold FineT FineAll FineAll
  exact ⟨.inr (.inl ⟨rfl, rfl, rfl⟩), h, trivial⟩
theorem row10_int (w : World) (q : Int) : ∀ X, X = w.alloc (.cells #[.int .i64 q] 3) → NumS .i64 X X.heap.size (.slice (some ⟨w.heap.size, 0, none⟩) 1 1) [q] := by
  rintro X rfl
  have hb : (w.alloc (.cells #[.int .i64 q] 3)).heap[w.heap.size]? = some (.cells #[.int .i64 q] 3 (0, 0)) := blk_alloc_new _ _
  refine ⟨_, 1, rfl, by simp, by omega, fun _ => ⟨w.heap.size, 0, rfl, by simp, fun j hj => ?_⟩⟩
  obtain rfl : j = 0 := by simp at hj; omega
  unfold World.cell?
  dsimp only
  rw [hb]
  rfl

theorem in64_st {st at_ : Nat} (hst : st ≤ 255) (hat : at_ ≤ 255) : All64 [(st : Int) + 1] ∧ In64 (at_ : Int) := by
  refine ⟨?_, by omega, by omega⟩
  intro q hq
  simp at hq
  subst hq
  exact ⟨by omega, by omega⟩
theorem wraps10 {st at_ n m : Nat} (hst : st ≤ 255) (hat : at_ ≤ 255) (hm : m = 1 + n % 50) : IntKind.i64.wrap (1 + (n : Int) % 50) = (m : Int) ∧ IntKind.i64.wrap (1 + (st : Int)) = (st : Int) + 1 ∧ wrap64 (1 + (st : Int)) = (st : Int) + 1 ∧ wrap64 (st : Int) = st ∧ wrap64 (at_ : Int) = at_ ∧ wrap64 (1 + (n : Int) % 50) = (m : Int) := by
  refine ⟨?_, ?_, ?_, ?_, ?_, ?_⟩
  · rw [IntWalk.i64_in _ (by omega)]; omega
  · rw [IntWalk.i64_in _ (by omega)]; omega
  · unfold wrap64; omega
  · unfold wrap64; omega
  · unfold wrap64; omega
  · unfold wrap64; omega

set_option maxRecDepth 100000 in
set_option maxHeartbeats 4000000 in
theorem null10_walk (c : List Int) (v : Value) (st at_ n : Nat) (w : World) (h : Bytes w w.heap.size v c) (hb : AllB c) (hst : st ≤ 255) (hat : at_ ≤ 255) (L : Laid w) :
    Calls Tryd.prog 9 #[v, .int .u8 st, .int .u8 at_, .int .u8 n] w fun e w' => e = .returned (.bool true) ∧ Below w.heap.size w w' := by
  have HK := Lib.hid (fun X (hX : Below w.heap.size w X) => known10_any X (L.on hX))
  obtain ⟨A, cc, rfl⟩ := h.form rfl
  by_cases hlen : 100 < c.length
  · have hlen2 : (100 : Int) < (c.length : Int) := by omega
    generalize c.length = len at *
    clear h hb L hlen
    go_enter Tryd.func9, Tryd.ntmps9
    go_wp2_with fail
    refine (HK.out w (Below.refl _ _)).mono ?_
    rintro e w2 ⟨rfl, hB2⟩
    go_wp2_with fail
    go_ret
    exact ⟨rfl, hB2⟩
  · have hlen2 : ¬ (100 : Int) < (c.length : Int) := by omega
    obtain ⟨m, hm⟩ : ∃ m : Nat, m = 1 + n % 50 := ⟨_, rfl⟩
    have hm1 : 1 ≤ m ∧ m ≤ 50 := by omega
    have HWr := Lib.hid (wraps10 hst hat hm)
    have hmk := run_make_row' (P := Tryd.prog) 34 53 (.int .u64 0) 8 Tryd.underlying34 Tryd.info53 rfl .i64 .i64 m (by omega) (by omega)
    obtain ⟨W1, hW1⟩ : ∃ W1, W1 = (w.alloc (.cells (madeCells #[.int .u64 0] m) 53)).alloc (.cells #[.slice (some ⟨w.heap.size, 0, none⟩) m m] 34) := ⟨_, rfl⟩
    have hA := zeros10_ar w m (by omega) W1 hW1
    have HB1 : Hid (Below w.heap.size w W1) := Lib.hid (by rw [hW1]; exact ((Below.refl _ _).alloc (Nat.le_refl _) _).alloc (by simp) _)
    have HD := Lib.hid (decode_any _ _ W1 (L.on HB1.out) hA (by simp) (zeros10_ok m))
    rw [zeros_decode m hm1.1 (by omega)] at HD
    have HTr := Lib.hid (fun X (hX : Below w.heap.size w X) => tree_all 5 (by omega) c _ X w.heap.size hX.size (h.below hX (Nat.le_refl _)) hb)
    have hfine : FineT (treeC 5 c).1 := (deep_fine _ 5 (treeC_fine 5 c).1).1
    have HNilS : Hid (sameT Tr.nil Tr.nil = true) := Lib.hid (by decide)
    generalize (treeC 5 c).1 = x at *
    generalize (treeC 5 c).2 = rest at *
    have HF := Lib.hid hfine
    have HSi := Lib.hid (in64_st hst hat)
    generalize c.length = len at *
    clear h hb L hA hm hm1 hlen hfine hst hat
    obtain ⟨hwm, hws, hwt, hwt0, hwa0, hwn⟩ := HWr.out
    go_enter Tryd.func9, Tryd.ntmps9
    go_upto_region 3 with fail
    go_wp2_with fail
    rw [← hW1]
    clear hW1 hmk
    refine HD.out.mono ?_
    unfold TrER
    rintro e w2 ⟨u, rfl, hP2, hB2⟩
    obtain ⟨k2, z2, A1, n1, c1, A2, n2, c2, A3, n3, c3, rfl⟩ := hP2.parts
    unfold cellsT
    dsimp only
    obtain ⟨w3, hw3⟩ : ∃ w3, w3 = w2.alloc (.cells #[.int .i64 k2, .int .i64 z2, .slice A1 n1 c1, .slice A2 n2 c2, .slice A3 n3 c3] 37) := ⟨_, rfl⟩
    have hB3 : Below w2.heap.size w2 w3 := by rw [hw3]; exact (Below.refl _ _).alloc (Nat.le_refl _) _
    have HT3 : Hid (TBox w3 w2.heap.size k2 z2 (.slice A1 n1 c1) (.slice A2 n2 c2) (.slice A3 n3 c3)) := Lib.hid (by rw [hw3]; exact TBox.new _ _ _ _ _ _)
    have HV3 := Lib.hid ((TrP.trV (fun b hb => hb.2) _ _ hP2).on hB3)
    have HB3 := Lib.hid (HB1.out.trans ((bseq8 hB2 hB3).mono HB1.out.size))
    clear hP2 hB2 hB3
    go_upto_region 4 with fail
    rw [← hw3]
    clear hw3
    go_wp2_with fail
    refine (HTr.out w3 HB3.out).mono ?_
    rintro e w4 ⟨x', y', rfl, hP4, hy4, hB4⟩
    obtain ⟨Ay, cy, rfl⟩ := hy4.form rfl
    obtain ⟨kx, zx, wx, bx, ksx⟩ := x
    obtain ⟨A4, c4, A5, c5, A6, c6, rfl, -⟩ := (TrP.trV (B := w4.heap.size) (fun b hb => hb.2) _ _ hP4).parts
    unfold cellsT
    dsimp only
    obtain ⟨w5, hw5⟩ : ∃ w5, w5 = w4.alloc (.cells #[.int .i64 kx, .int .i64 zx, .slice A4 wx.length c4, .slice A5 bx.length c5, .slice A6 ksx.length c6] 37) := ⟨_, rfl⟩
    have hB5 : Below w4.heap.size w4 w5 := by rw [hw5]; exact (Below.refl _ _).alloc (Nat.le_refl _) _
    have HT5 : Hid (TBox w5 w4.heap.size kx zx (.slice A4 wx.length c4) (.slice A5 bx.length c5) (.slice A6 ksx.length c6)) := Lib.hid (by rw [hw5]; exact TBox.new _ _ _ _ _ _)
    have HV5 := Lib.hid ((TrP.trV (fun b hb => hb.2) _ _ hP4).on hB5)
    have HC5 := Lib.hid (bseq8 hB4 hB5)
    have HB5 := Lib.hid (HB3.out.trans ((bseq8 hB4 hB5).mono HB3.out.size))
    have HKd := Lib.hid (kid_ask (.mk kx zx wx bx ksx))
    have HNa := Lib.hid (null_ask (.mk kx zx wx bx ksx) ((st : Int) + 1) at_ (by omega))
    generalize hX : Tr.mk kx zx wx bx ksx = X at HV5 HF HKd HNa
    have HXk : Hid (X.kind = kx) := Lib.hid (by rw [← hX]; rfl)
    generalize wx.length = nx1 at *
    generalize bx.length = nx2 at *
    generalize ksx.length = nx3 at *
    generalize rest.length = nr at *
    clear hP4 hy4 hB4 hB5 hX
    go_upto_region 5 with fail
    rw [← hw5]
    clear hw5
    obtain ⟨w6, hw6⟩ : ∃ w6, w6 = w5.alloc (.cells #[.int .i64 kx, .int .i64 zx, .slice A4 nx1 c4, .slice A5 nx2 c5, .slice A6 nx3 c6] 37) := ⟨_, rfl⟩
    have hV6 := over_V HV5.out w6 hw6
    have hB6 : Below w5.heap.size w5 w6 := by rw [hw6]; exact (Below.refl _ _).alloc (Nat.le_refl _) _
    have hs6 : w6.heap.size = w5.heap.size + 1 := by rw [hw6, World.size_alloc]
    obtain ⟨w7, hw7⟩ : ∃ w7, w7 = w6.alloc (.cells #[.int .i64 1, .int .i64 0, .slice none 0 0, .slice none 0 0, .slice (some ⟨w5.heap.size, 0, none⟩) 1 1] 37) := ⟨_, rfl⟩
    have hB7 : Below w6.heap.size w6 w7 := by rw [hw7]; exact (Below.refl _ _).alloc (Nat.le_refl _) _
    have HT7 : Hid (TBox w7 (w5.heap.size + 1) 1 0 (.slice none 0 0) (.slice none 0 0) (.slice (some ⟨w5.heap.size, 0, none⟩) 1 1)) := Lib.hid (by rw [hw7, ← hs6]; exact TBox.new _ _ _ _ _ _)
    have HV7 := Lib.hid (hV6.on hB7)
    have HC7 := Lib.hid (bseq8 hB6 hB7)
    have HB7 := Lib.hid (HB5.out.trans ((bseq8 hB6 hB7).mono HB5.out.size))
    clear hV6 hB6 hB7 hs6
    rw [hw6] at hw7
    clear hw6
    obtain ⟨d0, d1, d2, d3, d4⟩ := HT5.out.cells
    go_upto_region 6 with fail
    rw [← hw7]
    clear hw7 d0 d1 d2 d3 d4
    obtain ⟨d0, d1, d2, d3, d4⟩ := HT7.out.cells
    obtain ⟨w8, hw8⟩ : ∃ w8, w8 = w7.alloc (.cells #[.int .i64 ((st : Int) + 1)] 3) := ⟨_, rfl⟩
    have hB8 : Below w7.heap.size w7 w8 := by rw [hw8]; exact (Below.refl _ _).alloc (Nat.le_refl _) _
    have HA8 := Lib.hid (ask_any _ _ w8 _ [(st : Int) + 1] at_ (HV7.out.on hB8) (over_fine HF.out) (row10_int w7 _ w8 hw8) HSi.out.1 HSi.out.2)
    rw [HNa.out] at HA8
    unfold cellsT at HA8
    have HB8 := Lib.hid hB8
    clear hB8
    go_wp2_with fail
    rw [← hw8]
    clear hw8
    refine HA8.out.mono ?_
    unfold VaR
    rintro e w9 ⟨rfl, hB9⟩
    unfold cellsV Va.zero
    dsimp only
    obtain ⟨w10, hw10⟩ : ∃ w10, w10 = w9.alloc (.cells #[.int .i64 0, .int .i64 0, .int .i64 0, .int .i64 0, .int .u64 0] 55) := ⟨_, rfl⟩
    have hB10 : Below w9.heap.size w9 w10 := by rw [hw10]; exact (Below.refl _ _).alloc (Nat.le_refl _) _
    have HV10 : Hid (VBox w10 w9.heap.size Va.zero) := Lib.hid (by rw [hw10]; exact VBox.new w9 Va.zero)
    have HC10 := Lib.hid (bseq8 HB8.out (bseq8 hB9 hB10))
    clear hB9 hB10 d0 d1 d2 d3 d4
    obtain ⟨d0, d1, d2, d3, d4⟩ := (HT7.out.on HC10.out).cells
    go_upto_region 7 with fail
    rw [← hw10]
    clear hw10
    obtain ⟨w11, hw11⟩ : ∃ w11, w11 = w10.alloc (.cells #[.int .i64 0] 3) := ⟨_, rfl⟩
    have hB11 : Below w10.heap.size w10 w11 := by rw [hw11]; exact (Below.refl _ _).alloc (Nat.le_refl _) _
    have HA11 := Lib.hid (ask_any _ _ w11 _ [0] (-1) (HV7.out.on (bseq8 HC10.out hB11)) (over_fine HF.out) (row10_int w10 _ w11 hw11) (by intro q hq; simp at hq; subst hq; exact ⟨by decide, by decide⟩) ⟨by decide, by decide⟩)
    obtain ⟨kd1, kd2⟩ := HKd.out
    rw [HXk.out] at kd2
    generalize askT (.mk 1 0 [] [] [X]) [0] (-1) = r at *
    obtain ⟨⟨va, vb, vc, vd, ve⟩, er⟩ := r
    dsimp only at kd1 kd2
    subst kd1 kd2
    unfold cellsT at HA11
    have HB11 := Lib.hid hB11
    clear hB11 HKd
    go_wp2_with fail
    rw [← hw11]
    clear hw11 d0 d1 d2 d3 d4
    refine HA11.out.mono ?_
    unfold VaR
    rintro e w12 ⟨rfl, hB12⟩
    unfold cellsV
    dsimp only
    obtain ⟨w13, hw13⟩ : ∃ w13, w13 = w12.alloc (.cells #[.int .i64 va, .int .i64 vb, .int .i64 vc, .int .i64 vd, .int .u64 ve] 55) := ⟨_, rfl⟩
    have hB13 : Below w12.heap.size w12 w13 := by rw [hw13]; exact (Below.refl _ _).alloc (Nat.le_refl _) _
    have HV13 : Hid (VBox w13 w12.heap.size ⟨va, vb, vc, vd, ve⟩) := Lib.hid (by rw [hw13]; exact VBox.new w12 ⟨va, vb, vc, vd, ve⟩)
    have HC13 := Lib.hid (bseq8 HB11.out (bseq8 hB12 hB13))
    have HD13 := Lib.hid (bseq8 HC10.out HC13.out)
    have HB13 := Lib.hid (HB7.out.trans (HD13.out.mono HB7.out.size))
    clear hB12 hB13
    go_upto_region 8 with fail
    rw [← hw13]
    clear hw13
    go_wp2_with fail
    refine (HK.out w13 HB13.out).mono ?_
    rintro e w14 ⟨rfl, hB14⟩
    have HB14 := Lib.hid (HB13.out.trans (hB14.mono HB13.out.size))
    have HD14 := Lib.hid (bseq8 HC13.out hB14)
    have HE14 := Lib.hid (bseq8 HC10.out HD14.out)
    have HF14 := Lib.hid (bseq8 HC5.out (bseq8 HC7.out HE14.out))
    have HT14 := Lib.hid (HT3.out.on HF14.out)
    have HU14 := Lib.hid (HT5.out.on (bseq8 HC7.out HE14.out))
    have HX14 := Lib.hid (HV10.out.on HD14.out)
    have HY14 := Lib.hid (HV13.out.on hB14)
    have HSm := Lib.hid (rsame8_any Tr.nil Tr.nil _ _ w14 (HV3.out.on HF14.out) (TrV.nil _ _))
    rw [HNilS.out] at HSm
    unfold cellsT at HSm
    obtain ⟨d0, d1, d2, d3, d4⟩ := HT14.out.cells
    clear hB14
    go_wp2_with fail
    refine HSm.out.mono ?_
    rintro e w15 ⟨rfl, hB15⟩
    have HB15 := Lib.hid (HB14.out.trans (hB15.mono HB14.out.size))
    clear d0 d1 d2 d3 d4
    obtain ⟨x0, x1, x2, x3, x4⟩ := (HX14.out.on hB15).cells
    unfold Va.zero at x0 x1 x2 x3 x4
    dsimp only at x0 x1 x2 x3 x4
    obtain ⟨y0, -, -, -, -⟩ := (HY14.out.on hB15).cells
    obtain ⟨z0, -, -, -, -⟩ := (HU14.out.on hB15).cells
    have hqe : ∀ X, (binOp .eql 55 (.agg #[.int .i64 0, .int .i64 0, .int .i64 0, .int .i64 0, .int .u64 0]) (.agg #[.int .i64 0, .int .i64 0, .int .i64 0, .int .i64 0, .int .u64 0])).run Tryd.prog X = .ok (.bool true) X := fun X => run_eql_V X Va.zero Va.zero
    have hgd := fun w op x y xs ys => run_eqGuard_agg (P := Tryd.prog) w op 55 x y xs ys (by kernel_rfl)
    clear hB15
    go_wp2_with fail
    go_ret
    exact ⟨by simp, HB15.out⟩

end Go.Proofs.YtdfldfnjjjcleaaDoor
