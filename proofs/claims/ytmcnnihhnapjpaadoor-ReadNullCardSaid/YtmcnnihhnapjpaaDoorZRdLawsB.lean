/-
  Layer 9: the law ReadNull.
-/
import Derived.Test.YtmcnnihhnapjpaaDoorZRdLawsA

namespace Go.Proofs.YtmcnnihhnapjpaaDoor
open Go.RowKit Go.Deep

theorem zeros_ar (w : World) (m : Nat) (hm : m ≤ 1000) : ArV ((w.alloc (.cells (madeCells #[.int .u64 0] m) 30)).alloc (.cells #[.slice (some ⟨w.heap.size, 0, none⟩) m m] 23)) ((w.alloc (.cells (madeCells #[.int .u64 0] m) 30)).alloc (.cells #[.slice (some ⟨w.heap.size, 0, none⟩) m m] 23)).heap.size (.slice (some ⟨w.heap.size + 1, 0, none⟩) 1 1) [List.replicate m 0] := by
  have hr := World.rowIs_made w (.int .u64 0) m 30
  have hz : (w.alloc (.cells (madeCells #[.int .u64 0] m) 30)).heap.size = w.heap.size + 1 := World.size_alloc _ _
  generalize w.alloc (.cells (madeCells #[.int .u64 0] m) 30) = X at *
  have hzz : (X.alloc (.cells #[.slice (some ⟨w.heap.size, 0, none⟩) m m] 23)).heap.size = X.heap.size + 1 := World.size_alloc _ _
  refine ⟨_, 1, rfl, by simp, by omega, fun _ => ⟨w.heap.size + 1, 0, rfl, by omega, fun j hj => ?_⟩⟩
  obtain rfl : j = 0 := by simp at hj; omega
  refine ⟨.slice (some ⟨w.heap.size, 0, none⟩) m m, ?_, ⟨_, m, by simp, by simp, by omega, fun _ => ⟨w.heap.size, 0, rfl, by omega, fun i hi => ?_⟩⟩⟩
  · have := cell_one_new X (.slice (some ⟨w.heap.size, 0, none⟩) m m) 23 0 (.slice (some ⟨w.heap.size, 0, none⟩) m m) rfl
    rwa [Addr.add_lit, hz] at this
  · have hi2 : i < m := by simpa using hi
    have := (hr.alloc (.cells #[.slice (some ⟨w.heap.size, 0, none⟩) m m] 23)).cell hi2
    rw [Nat.zero_add, this]
    simp [hi2]
theorem zeros_ok (m : Nat) : AllU [List.replicate m 0] := by
  intro s hs x hx
  simp at hs
  subst hs
  obtain rfl := List.eq_of_mem_replicate hx
  decide
theorem row_33 {w : World} {b : Nat} (h : w.rowIs b 3 33 (fun _ => .int .i64 0)) : NumS .i64 w w.heap.size (.slice (some ⟨b, 0, none⟩) 33 33) (List.replicate 33 0) := by
  refine ⟨_, 33, by simp, by simp, by omega, fun _ => ⟨b, 0, rfl, h.lt, fun j hj => ?_⟩⟩
  have hj2 : j < 33 := by simpa using hj
  rw [Nat.zero_add, h.cell hj2, List.getElem?_replicate, if_pos hj2]
  rfl
theorem all_33 : All64 (List.replicate 33 0) := fun x hx => by
  obtain rfl := List.eq_of_mem_replicate hx
  exact ⟨by decide, by decide⟩

set_option maxRecDepth 100000 in
set_option maxHeartbeats 2000000 in
theorem null_walk (c : List Int) (v : Value) (a q : Nat) (w : World) (h : Bytes w w.heap.size v c) (hb : AllB c) (ha : a ≤ 255) (L : Laid w) :
    Calls Tryd.prog 3 #[v, .int .u8 a, .int .u8 q] w fun e w' => e = .returned (.bool true) ∧ Below w.heap.size w w' := by
  have HL := Lib.hid L
  have HP := Lib.hid (fun X (hX : Below w.heap.size w X) => path9_any c v a X (h.on hX) hb ha)
  have HK := Lib.hid (fun X (hX : Below w.heap.size w X) => known9_any X (L.on hX))
  obtain ⟨m, hm⟩ : ∃ m : Nat, m = 1 + q % 30 := ⟨_, rfl⟩
  have hm1 : 1 ≤ m ∧ m ≤ 30 := by omega
  have hwm : IntKind.i64.wrap (1 + (q : Int) % 30) = (m : Int) := by rw [IntWalk.i64_in _ (by omega)]; omega
  have hmk := run_make_row' (P := Tryd.prog) 23 30 (.int .u64 0) 8 Tryd.underlying23 Tryd.info30 rfl .i64 .i64 m (by omega) (by omega)
  have hA := zeros_ar w m (by omega)
  have hB1 : Below w.heap.size w ((w.alloc (.cells (madeCells #[.int .u64 0] m) 30)).alloc (.cells #[.slice (some ⟨w.heap.size, 0, none⟩) m m] 23)) := ((Below.refl _ _).alloc (Nat.le_refl _) _).alloc (by simp) _
  obtain ⟨W1, hW1⟩ : ∃ W1, W1 = (w.alloc (.cells (madeCells #[.int .u64 0] m) 30)).alloc (.cells #[.slice (some ⟨w.heap.size, 0, none⟩) m m] 23) := ⟨_, rfl⟩
  rw [← hW1] at hA hB1
  have HA1 := Lib.hid hA
  have HB1 := Lib.hid hB1
  obtain ⟨A, n, rfl⟩ := h.form rfl
  have HO := Lib.hid (fun (X : World) (u : Value) (i : Int) (ks : List Int) (hX : Below W1.heap.size W1 X) (hi : In64 i) (h64 : All64 ks) (hu : NumS .i64 X X.heap.size u ks) => of_any (.slice (some ⟨w.heap.size + 1, 0, none⟩) 1 1) [List.replicate m 0] X u ks i 100 (L.on (hB1.trans (hX.mono hB1.size))) (hA.on hX) (by simp) (zeros_ok m) hu h64 hi ⟨by decide, by decide⟩)
  have HN1 := Lib.hid (fun i => null_of m hm1.1 (by omega) (stepsC c (min c.length 6)) i 100 stepsC_pos.1 (by rw [stepsC_len (by omega)]; omega) (by rw [stepsC_len (by omega)]; omega))
  have HN2 := Lib.hid (fun i => long_of m hm1.1 (by omega) i 100)
  have HS64 := Lib.hid (stepsC_pos (c := c) (t := min c.length 6)).2
  generalize stepsC c (min c.length 6) = ks at *
  generalize c.length = len at *
  clear h hb ha L hA hB1 hm hm1
  go_enter Tryd.func3, Tryd.ntmps3
  go_upto_region 2 with fail
  rw [← hW1]
  clear hW1 hmk
  go_wp2_with fail
  refine (HP.out W1 HB1.out).mono ?_
  rintro e w2 ⟨u, i, rfl, hi, hu, hB2⟩
  have HI := Lib.hid hi
  have hB3 : Below w2.heap.size w2 (w2.alloc (.cells #[u, .int .i64 i] 28)) := (Below.refl _ _).alloc (Nat.le_refl _) _
  have hP3 : PaBox (w2.alloc (.cells #[u, .int .i64 i] 28)) w2.heap.size u i := by unfold PaBox; rw [blk_alloc_new]
  have HP3 := Lib.hid hP3
  have HBa := Lib.hid (hB2.trans (hB3.mono hB2.size))
  have HU3 := Lib.hid (hu.on hB3)
  have HB3 := Lib.hid (HB1.out.trans (HBa.out.mono HB1.out.size))
  obtain ⟨Au, cu, rfl⟩ := hu.form rfl
  obtain ⟨W3, hW3⟩ : ∃ W3, W3 = w2.alloc (.cells #[.slice Au ks.length cu, .int .i64 i] 28) := ⟨_, rfl⟩
  rw [← hW3] at HP3 HBa HU3 HB3
  clear hi hu hB2 hB3 hP3
  have HO3 := HO.out W3 _ i ks HBa.out HI.out HS64.out HU3.out
  rw [HN1.out i] at HO3
  generalize ks.length = kl at *
  go_upto_region 3 with fail
  rw [← hW3]
  clear hW3
  obtain ⟨c1, c2⟩ := HP3.out.cells
  go_wp2_with fail
  refine HO3.mono ?_
  rintro e w4 ⟨rfl, hB4⟩
  unfold cellsV Va.zero
  dsimp only
  have hB5 : Below w4.heap.size w4 (w4.alloc (.cells (cellsV Va.zero) 32)) := (Below.refl _ _).alloc (Nat.le_refl _) _
  have HV5 := Lib.hid (VBox.new w4 Va.zero)
  have HP5 := Lib.hid ((HP3.out.on hB4 HP3.out.lt).on (hB5.mono hB4.size) HP3.out.lt)
  have HBb := Lib.hid (HBa.out.trans ((hB4.trans (hB5.mono hB4.size)).mono HBa.out.size))
  have HB5 := Lib.hid (HB3.out.trans ((hB4.trans (hB5.mono hB4.size)).mono HB3.out.size))
  obtain ⟨W5, hW5⟩ : ∃ W5, W5 = w4.alloc (.cells (cellsV Va.zero) 32) := ⟨_, rfl⟩
  rw [← hW5] at HV5 HP5 HBb HB5
  unfold cellsV Va.zero at hW5
  dsimp only at hW5
  clear hB4 hB5 c1 c2 HO3
  go_upto_region 4 with fail
  rw [← hW5]
  clear hW5
  have hmk := run_make_row' (P := Tryd.prog) 26 3 (.int .i64 0) 8 Tryd.underlying26 Tryd.info3 rfl .i64 .i64 33 (by omega) (by omega)
  rw [show ((33 : Nat) : Int) = 33 from rfl] at hmk
  obtain ⟨row, hrow⟩ : ∃ row : Obj, row = .cells (madeCells #[Value.int .i64 0] 33) 3 := ⟨_, rfl⟩
  have hri : ∀ X : World, (X.alloc row).rowIs X.heap.size 3 33 (fun _ => .int .i64 0) := fun X => by rw [hrow]; exact World.rowIs_made X (.int .i64 0) 33 3
  have HC5 := Lib.hid (fun (X : World) (b : Nat) (hX : Below W5.heap.size W5 X) (hr : X.rowIs b 3 33 (fun _ => .int .i64 0)) => HO.out X _ i (List.replicate 33 0) (HBb.out.trans (hX.mono HBb.out.size)) HI.out all_33 (row_33 hr))
  rw [HN2.out i] at HC5
  rw [← hrow] at hmk
  have hd1 : Below W5.heap.size W5 (W5.alloc row).drew := ((Below.refl _ _).alloc (Nat.le_refl _) _).drew
  have hd2 : Below W5.heap.size W5 ((W5.alloc (.cells (cellsV Va.zero) 32)).alloc row).drew := (((Below.refl _ _).alloc (Nat.le_refl _) _).alloc (by simp) _).drew
  have hd3 : Below W5.heap.size W5 ((W5.alloc row).alloc (.cells (cellsV Va.zero) 32)).drew := (((Below.refl _ _).alloc (Nat.le_refl _) _).alloc (by simp) _).drew
  have hr1 : (W5.alloc row).drew.rowIs W5.heap.size 3 33 (fun _ => .int .i64 0) := (hri W5).drew
  have hr2 : ((W5.alloc (.cells (cellsV Va.zero) 32)).alloc row).drew.rowIs (W5.heap.size + 1) 3 33 (fun _ => .int .i64 0) := by
    have := (hri (W5.alloc (.cells (cellsV Va.zero) 32))).drew
    rwa [World.size_alloc] at this
  have hr3 : ((W5.alloc row).alloc (.cells (cellsV Va.zero) 32)).drew.rowIs W5.heap.size 3 33 (fun _ => .int .i64 0) := ((hri W5).alloc _).drew
  have hx2 : VBox ((W5.alloc (.cells (cellsV Va.zero) 32)).alloc row).drew W5.heap.size Va.zero := (VBox.new W5 Va.zero).on (((Below.refl _ _).alloc (Nat.le_refl _) _).drew)
  have hx3 : VBox ((W5.alloc row).alloc (.cells (cellsV Va.zero) 32)).drew (W5.heap.size + 1) Va.zero := by
    have := (VBox.new (W5.alloc row) Va.zero).on (Below.refl _ _).drew
    rwa [World.size_alloc] at this
  have HE1 := Lib.hid (HC5.out _ _ hd1 hr1)
  have HE2 := Lib.hid (HC5.out _ _ hd2 hr2)
  have HE3 := Lib.hid (HC5.out _ _ hd3 hr3)
  have HX2 := Lib.hid hx2
  have HX3 := Lib.hid hx3
  have HD1 := Lib.hid hd1
  have HD2 := Lib.hid hd2
  have HD3 := Lib.hid hd3
  unfold VaR at HE1 HE2 HE3
  unfold cellsV Va.zero at HE2 HE3 HX2 HX3 HD2 HD3
  dsimp only at HE2 HE3 HX2 HX3 HD2 HD3
  obtain ⟨c1, c2⟩ := HP5.out.cells
  have q1 := fun o => (HP5.out.on ((Below.refl W5.heap.size W5).alloc (Nat.le_refl _) o) HP5.out.lt).cells.2
  have q2 := fun o o' => (HP5.out.on (((Below.refl W5.heap.size W5).alloc (Nat.le_refl _) o).alloc (by simp) o') HP5.out.lt).cells.2
  clear hri hrow hd1 hd2 hd3 hr1 hr2 hr3 hx2 hx3 HC5
  go_cut [12] (fun x wx => x = .int .u16 3 ∧ Below W5.heap.size W5 wx)
  case first =>
    go_region_law (first | (go_simp; go_at_call 7; with_reducible refine HE1.out.mono ?_; intro e w6 hR; obtain ⟨hR1, hB6⟩ := hR; subst hR1; (try unfold cellsV Va.zero); (try dsimp only); have hT := HD1.out.trans (hB6.mono HD1.out.size)) | (go_simp; go_at_call 7; with_reducible refine HE2.out.mono ?_; intro e w6 hR; obtain ⟨hR1, hB6⟩ := hR; subst hR1; (try unfold cellsV Va.zero); (try dsimp only); have hT := HD2.out.trans (hB6.mono HD2.out.size); obtain ⟨x0, x1, x2, x3, x4⟩ := (HX2.out.on hB6).cells; obtain ⟨f0, f1, f2, f3, f4⟩ := (HX2.out.on hB6).frozens; dsimp only at x0 x1 x2 x3 x4) | (go_simp; go_at_call 7; with_reducible refine HE3.out.mono ?_; intro e w6 hR; obtain ⟨hR1, hB6⟩ := hR; subst hR1; (try unfold cellsV Va.zero); (try dsimp only); have hT := HD3.out.trans (hB6.mono HD3.out.size); obtain ⟨x0, x1, x2, x3, x4⟩ := (HX3.out.on hB6).cells; obtain ⟨f0, f1, f2, f3, f4⟩ := (HX3.out.on hB6).frozens; dsimp only at x0 x1 x2 x3 x4))
    all_goals go_wp2_with fail
    all_goals go_meet
    all_goals refine ⟨rfl, ?_⟩
    all_goals first | with_reducible exact hT.alloc hT.size _ | with_reducible exact below_val5 (w := W5) (g := W5.heap.size) hT (Nat.le_refl _) (.int .i64 0) (.int .i64 0) (.int .i64 0) (.int .i64 0) (.int .u64 0) | with_reducible exact below_val5 (w := W5) (g := W5.heap.size + 1) hT (Nat.le_succ _) (.int .i64 0) (.int .i64 0) (.int .i64 0) (.int .i64 0) (.int .u64 0)
  case rest =>
    obtain ⟨rfl, hB6⟩ := hcut
    have HV6 := Lib.hid (HV5.out.on hB6)
    have HB6 := Lib.hid (HB5.out.trans (hB6.mono HB5.out.size))
    clear hB6 q1 q2 c1 c2
    go_wp2_with fail
    refine (HK.out wc HB6.out).mono ?_
    rintro e w7 ⟨rfl, hB7⟩
    have HV7 := Lib.hid (HV6.out.on hB7)
    have HB7 := Lib.hid (HB6.out.trans (hB7.mono HB6.out.size))
    clear hB7
    obtain ⟨x0, x1, x2, x3, x4⟩ := HV7.out.cells
    unfold Va.zero at x0 x1 x2 x3 x4
    dsimp only at x0 x1 x2 x3 x4
    have hqe : ∀ X, (binOp .eql 32 (.agg #[.int .i64 0, .int .i64 0, .int .i64 0, .int .i64 0, .int .u64 0]) (.agg #[.int .i64 0, .int .i64 0, .int .i64 0, .int .i64 0, .int .u64 0])).run Tryd.prog X = .ok (.bool true) X := fun X => run_eql_V X Va.zero Va.zero
    have hgd := fun w op x y xs ys => run_eqGuard_agg (P := Tryd.prog) w op 32 x y xs ys (by kernel_rfl)
    go_wp2_with fail
    go_ret
    exact ⟨rfl, HB7.out⟩

end Go.Proofs.YtmcnnihhnapjpaaDoor
