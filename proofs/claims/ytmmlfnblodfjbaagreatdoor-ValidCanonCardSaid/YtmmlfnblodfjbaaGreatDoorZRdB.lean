/-
  Layer 9, the landed package: landed, by one word.
-/
import Derived.Test.YtmmlfnblodfjbaaGreatDoorZRdA
import Derived.Deep.RegionHeld3

namespace Go.Proofs.YtmmlfnblodfjbaaGreatDoor
open Go.RowKit Go.Deep

/-- a target that is handed back -/
def ObR (t : Ob × Int) (w : World) (e : Ending) (w' : World) : Prop := e = .returned (.tuple #[.agg (cellsO t.1), .int .u16 t.2]) ∧ Below w.heap.size w w'

/-- the box of a pointer and an object's -/
theorem two_boxes9 (w : World) (p : Pt) (o : Ob) : PBox ((w.alloc (.cells (cellsP p) 70)).alloc (.cells (cellsO o) 129)) w.heap.size p ∧ OBox ((w.alloc (.cells (cellsP p) 70)).alloc (.cells (cellsO o) 129)) (w.heap.size + 1) o ∧ Below w.heap.size w ((w.alloc (.cells (cellsP p) 70)).alloc (.cells (cellsO o) 129)) := by
  refine ⟨(PBox.new w p).on ((Below.refl _ _).alloc (Nat.le_refl _) _), ?_, ((Below.refl _ _).alloc (Nat.le_refl _) _).alloc (by simp) _⟩
  have := OBox.new (w.alloc (.cells (cellsP p) 70)) o
  rwa [World.size_alloc] at this

set_option maxRecDepth 100000 in
set_option maxHeartbeats 2000000 in
theorem landed_1 {K : World → Prop} {s : Value} {sr : Sr} (H : SrcOK K s sr) (f : Pt) (w : World) (hK : K w) (hf : OkP f) (hk : f.kind = 3) (hd : f.dbl = false) :
    Calls Tryz.prog 145 #[s, .agg (cellsP f)] w (ObR (landed1 sr f) w) := by
  obtain ⟨t, v, rfl⟩ := H.form
  have HH := Lib.hid H
  have HK := Lib.hid hK
  obtain ⟨k, o, d, r, z, c, g, b⟩ := f
  dsimp only at hk hd
  subst hk hd
  have hin : (0 ≤ o ∧ o < 536870912) ∧ d = 0 ∧ r = 0 ∧ z = 0 ∧ c = 0 ∧ (0 ≤ g ∧ g < 4294967296) := by
    rcases hf with e | ⟨e, _⟩ | ⟨e, _⟩ | ⟨_, h⟩
    · cases e
    · exact absurd e (by simp)
    · exact absurd e (by simp)
    · exact h
  obtain ⟨ho, rfl, rfl, rfl, rfl, hg⟩ := hin
  have hW := fun X => pwords_any ⟨3, o, 0, 0, 0, 0, g, false⟩ X hf
  rw [show wordN ⟨3, o, 0, 0, 0, 0, g, false⟩ = 1 from rfl, show wordE ⟨3, o, 0, 0, 0, 0, g, false⟩ = 0 from rfl] at hW
  have HW := Lib.hid hW
  have HP := Lib.hid (fun X (hX : K X) => pointers_1 H g o X hX ⟨by omega, by omega⟩ ⟨by omega, by omega⟩)
  have HN := Lib.hid (fun p (hp : OkP p) X => near9_any p g o X (by
    rcases hp with e | ⟨_, h, _⟩ | ⟨_, h, _⟩ | ⟨_, h, _⟩
    · rw [e]; decide
    · exact h
    · exact h
    · omega) ⟨by omega, by omega⟩)
  have HOk := Lib.hid (ptS_ok H.good g o)
  have HL : Hid (landed1 sr ⟨3, o, 0, 0, 0, 0, g, false⟩ = if ptE sr g o ≠ 0 then (Ob.zero, ptE sr g o) else if (ptS sr g o).kind ≠ 1 ∧ (ptS sr g o).kind ≠ 2 then (Ob.zero, 23) else (nearO (ptS sr g o) g o, 0)) := Lib.hid rfl
  obtain ⟨Z, hZ⟩ : ∃ Z, Z = landed1 sr ⟨3, o, 0, 0, 0, 0, g, false⟩ := ⟨_, rfl⟩
  rw [← hZ] at HL ⊢
  obtain ⟨hb1, hb2, hB0⟩ := two_boxes9 w ⟨3, o, 0, 0, 0, 0, g, false⟩ Ob.zero
  obtain ⟨W1, hW1⟩ : ∃ W1, W1 = (w.alloc (.cells (cellsP ⟨3, o, 0, 0, 0, 0, g, false⟩) 70)).alloc (.cells (cellsO Ob.zero) 129) := ⟨_, rfl⟩
  rw [← hW1] at hb1 hb2 hB0
  have HF0 := Lib.hid hb1
  have HO0 := Lib.hid hb2
  have HB0 := Lib.hid hB0
  obtain ⟨z0, z1, z2, z3, z4, z5, z6, z7⟩ := hb1.cells
  dsimp only at z0 z1 z2 z3 z4 z5 z6 z7
  unfold cellsP cellsO Ob.zero at hW1
  dsimp only at hW1
  unfold cellsP at HW ⊢
  dsimp only at HW ⊢
  generalize ptE sr g o = E at *
  generalize ptS sr g o = q at *
  obtain ⟨q0, q1, q2, q3, q4, q5, q6, q7⟩ := q
  clear hZ hf ho hg hW hb1 hb2 hB0 hK H
  go_enter Tryz.func145, Tryz.ntmps145
  go_upto_region 1 with fail
  rw [← hW1]
  clear hW1
  go_wp2_with fail
  refine (HW.out _).mono ?_
  rintro e w2 ⟨rfl, hB2⟩
  have HF2 := Lib.hid (HF0.out.on hB2)
  have HO2 := Lib.hid (HO0.out.on hB2)
  have HB2 := Lib.hid (bseq' HB0.out hB2)
  clear hB2 z0 z1 z2 z3 z4 z5 z6 z7
  obtain ⟨z0, z1, z2, z3, z4, z5, z6, z7⟩ := HF2.out.cells
  dsimp only at z0 z1 z2 z3 z4 z5 z6 z7
  go_wp2_with fail
  refine (HP.out w2 (HH.out.on HK.out HB2.out)).mono ?_
  rintro e w3 ⟨u, rfl, hq, hB3⟩
  have HF3 := Lib.hid (HF2.out.on hB3)
  have HO3 := Lib.hid (HO2.out.on hB3)
  have HB3 := Lib.hid (bseq' HB2.out hB3)
  clear hB3 z0 z1 z2 z3 z4 z5 z6 z7
  by_cases hE : E = 0
  · subst hE
    obtain ⟨bq, rfl, hpq⟩ := hq rfl
    have HQ3 := Lib.hid hpq
    clear hpq hq
    obtain ⟨y0, y1, y2, y3, y4, y5, y6, y7⟩ := HQ3.out.cells
    dsimp only at y0 y1 y2 y3 y4 y5 y6 y7
    have HA1 := fun o => (HQ3.out.on ((Below.refl w3.heap.size w3).alloc (Nat.le_refl _) o)).cells
    have HA2 := fun o o' => (HQ3.out.on (((Below.refl w3.heap.size w3).alloc (Nat.le_refl _) o).alloc (by simp) o')).cells
    have x0 := fun o => (HA1 o).1
    have x1 := fun o => (HA1 o).2.1
    have x2 := fun o => (HA1 o).2.2.1
    have x3 := fun o => (HA1 o).2.2.2.1
    have x4 := fun o => (HA1 o).2.2.2.2.1
    have x5 := fun o => (HA1 o).2.2.2.2.2.1
    have x6 := fun o => (HA1 o).2.2.2.2.2.2.1
    have x7 := fun o => (HA1 o).2.2.2.2.2.2.2
    have v0 := fun o o' => (HA2 o o').1
    have v1 := fun o o' => (HA2 o o').2.1
    have v2 := fun o o' => (HA2 o o').2.2.1
    have v3 := fun o o' => (HA2 o o').2.2.2.1
    have v4 := fun o o' => (HA2 o o').2.2.2.2.1
    have v5 := fun o o' => (HA2 o o').2.2.2.2.2.1
    have v6 := fun o o' => (HA2 o o').2.2.2.2.2.2.1
    have v7 := fun o o' => (HA2 o o').2.2.2.2.2.2.2
    dsimp only at x0 x1 x2 x3 x4 x5 x6 x7 v0 v1 v2 v3 v4 v5 v6 v7
    clear HA1 HA2
    go_upto_region 5 with fail
    go_cut [10, 11] (fun x y wx => ∃ b1 b2, x = .pointer (some ⟨b1, 0, none⟩) ∧ y = .pointer (some ⟨b2, 0, none⟩) ∧ PBox wx b1 ⟨q0, q1, q2, q3, q4, q5, q6, q7⟩ ∧ PBox wx b2 ⟨q0, q1, q2, q3, q4, q5, q6, q7⟩ ∧ Below w3.heap.size w3 wx)
    case first =>
      go_region
      all_goals (go_wp2_with fail; go_meet; obtain ⟨e1, e2, e3⟩ := two_new w3 (cellsP ⟨q0, q1, q2, q3, q4, q5, q6, q7⟩) (cellsP ⟨q0, q1, q2, q3, q4, q5, q6, q7⟩) 70 70; first | exact ⟨_, _, rfl, rfl, e1, e2, e3⟩ | exact ⟨_, _, rfl, rfl, e2, e1, e3⟩)
    case rest =>
      obtain ⟨b1, b2, rfl, rfl, hp1, hp2, hB4⟩ := hcut
      clear x0 x1 x2 x3 x4 x5 x6 x7 v0 v1 v2 v3 v4 v5 v6 v7 y0 y1 y2 y3 y4 y5 y6 y7
      have HF4 := Lib.hid (HF3.out.on hB4)
      have HO4 := Lib.hid (HO3.out.on hB4)
      have HP4 := Lib.hid hp2
      have HB4 := Lib.hid (bseq' HB3.out hB4)
      clear hB4 hp1 hp2
      obtain ⟨z0, z1, z2, z3, z4, z5, z6, z7⟩ := HF4.out.cells
      obtain ⟨y0, y1, y2, y3, y4, y5, y6, y7⟩ := HP4.out.cells
      dsimp only at z0 z1 z2 z3 z4 z5 z6 z7 y0 y1 y2 y3 y4 y5 y6 y7
      by_cases hk : q0 = 1 ∨ q0 = 2
      · obtain rfl : Z = (nearO ⟨q0, q1, q2, q3, q4, q5, q6, q7⟩ g o, 0) := HL.out.trans (by rw [if_neg (by simp), if_neg (by omega)])
        have HN4 := Lib.hid (HN.out _ HOk.out wc)
        generalize nearO ⟨q0, q1, q2, q3, q4, q5, q6, q7⟩ g o = O at *
        obtain ⟨o1, o2, o3, o4, o5, o6, o7⟩ := O
        unfold cellsP cellsO at HN4
        dsimp only at HN4
        rcases hk with rfl | rfl
        all_goals
          go_wp2_with fail
          refine HN4.out.mono ?_
          rintro e w5 ⟨rfl, hB5⟩
          have HO5 := Lib.hid (HO4.out.on hB5)
          have HB5 := Lib.hid (bseq' HB4.out hB5)
          clear hB5 z0 z1 z2 z3 z4 z5 z6 z7 y0 y1 y2 y3 y4 y5 y6 y7
          obtain ⟨y0, y1, y2, y3, y4, y5, y6⟩ := HO5.out.cells
          obtain ⟨f0, f1, f2, f3, f4, f5, f6⟩ := HO5.out.frozens
          unfold Ob.zero at y0 y1 y2 y3 y4 y5 y6
          dsimp only at y0 y1 y2 y3 y4 y5 y6
          have HX := Lib.hid (HO5.out.set7 o1 o2 o3 o4 o5 o6 o7)
          have HBX := Lib.hid (below_set7 (g := w.heap.size + 1) HB5.out (by omega) (.int .i64 o1) (.int .i64 o2) (.int .i64 o3) (.int .i64 o4) (.int .i64 o5) (.int .i64 o6) (.int .i64 o7))
          go_wp2_with fail
          clear y0 y1 y2 y3 y4 y5 y6
          obtain ⟨y0, y1, y2, y3, y4, y5, y6⟩ := HX.out.cells
          dsimp only at y0 y1 y2 y3 y4 y5 y6
          refine bodyPost_ret (v := .tuple #[.agg (cellsO ⟨o1, o2, o3, o4, o5, o6, o7⟩), .int .u16 0]) ?_ rfl ⟨rfl, HBX.out⟩
          simp [results, Tryz.f145, go_sem, cellsO, y0, y1, y2, y3, y4, y5, y6]
      · have hk1 : (q0 != 1) = true := by simp; omega
        have hk2 : (q0 != 2) = true := by simp; omega
        obtain rfl : Z = (Ob.zero, 23) := HL.out.trans (by rw [if_neg (by simp), if_pos (by omega)])
        obtain ⟨x0, x1, x2, x3, x4, x5, x6⟩ := HO4.out.cells
        obtain ⟨f0, f1, f2, f3, f4, f5, f6⟩ := HO4.out.frozens
        unfold Ob.zero at x0 x1 x2 x3 x4 x5 x6
        dsimp only at x0 x1 x2 x3 x4 x5 x6
        have HX := Lib.hid (HO4.out.set7 0 0 0 0 0 0 0)
        have HBX := Lib.hid (below_set7 (g := w.heap.size + 1) HB4.out (by omega) (.int .i64 0) (.int .i64 0) (.int .i64 0) (.int .i64 0) (.int .i64 0) (.int .i64 0) (.int .i64 0))
        go_wp2_with fail
        clear x0 x1 x2 x3 x4 x5 x6
        obtain ⟨x0, x1, x2, x3, x4, x5, x6⟩ := HX.out.cells
        dsimp only at x0 x1 x2 x3 x4 x5 x6
        refine bodyPost_ret (v := .tuple #[.agg (cellsO Ob.zero), .int .u16 23]) ?_ rfl ⟨rfl, HBX.out⟩
        simp [results, Tryz.f145, go_sem, cellsO, Ob.zero, x0, x1, x2, x3, x4, x5, x6]
  · have hE1 : (E != 0) = true := by simp [hE]
    obtain rfl : Z = (Ob.zero, E) := HL.out.trans (if_pos hE)
    obtain ⟨x0, x1, x2, x3, x4, x5, x6⟩ := HO3.out.cells
    obtain ⟨f0, f1, f2, f3, f4, f5, f6⟩ := HO3.out.frozens
    unfold Ob.zero at x0 x1 x2 x3 x4 x5 x6
    dsimp only at x0 x1 x2 x3 x4 x5 x6
    have HX := Lib.hid (HO3.out.set7 0 0 0 0 0 0 0)
    have HBX := Lib.hid (below_set7 (g := w.heap.size + 1) HB3.out (by omega) (.int .i64 0) (.int .i64 0) (.int .i64 0) (.int .i64 0) (.int .i64 0) (.int .i64 0) (.int .i64 0))
    go_wp2_with fail
    clear x0 x1 x2 x3 x4 x5 x6
    obtain ⟨x0, x1, x2, x3, x4, x5, x6⟩ := HX.out.cells
    dsimp only at x0 x1 x2 x3 x4 x5 x6
    refine bodyPost_ret (v := .tuple #[.agg (cellsO Ob.zero), .int .u16 E]) ?_ rfl ⟨rfl, HBX.out⟩
    simp [results, Tryz.f145, go_sem, cellsO, Ob.zero, x0, x1, x2, x3, x4, x5, x6]

end Go.Proofs.YtmmlfnblodfjbaaGreatDoor

namespace Go.Proofs.YtmmlfnblodfjbaaGreatDoor
open Go.RowKit Go.Deep

set_option maxRecDepth 100000 in
set_option maxHeartbeats 2000000 in
theorem landed_2 {K : World → Prop} {s : Value} {sr : Sr} (H : SrcOK K s sr) (f : Pt) (w : World) (hK : K w) (hf : OkP f) (hk : f.kind = 3) (hd : f.dbl = true) :
    Calls Tryz.prog 145 #[s, .agg (cellsP f)] w (ObR (landed2 sr f) w) := by
  obtain ⟨t, v, rfl⟩ := H.form
  have HH := Lib.hid H
  have HK := Lib.hid hK
  obtain ⟨k, o, d, r, z, c, g, b⟩ := f
  dsimp only at hk hd
  subst hk hd
  have hin : (0 ≤ o ∧ o < 536870912) ∧ d = 0 ∧ r = 0 ∧ z = 0 ∧ c = 0 ∧ (0 ≤ g ∧ g < 4294967296) := by
    rcases hf with e | ⟨e, _⟩ | ⟨e, _⟩ | ⟨_, h⟩
    · cases e
    · exact absurd e (by simp)
    · exact absurd e (by simp)
    · exact h
  obtain ⟨ho, rfl, rfl, rfl, rfl, hg⟩ := hin
  have hW := fun X => pwords_any ⟨3, o, 0, 0, 0, 0, g, true⟩ X hf
  rw [show wordN ⟨3, o, 0, 0, 0, 0, g, true⟩ = 2 from rfl, show wordE ⟨3, o, 0, 0, 0, 0, g, true⟩ = 0 from rfl] at hW
  have HW := Lib.hid hW
  have HP := Lib.hid (fun X (hX : K X) => pointers_2 H g o X hX ⟨by omega, by omega⟩ ⟨by omega, by omega⟩)
  have HN := Lib.hid (fun p x y X => thing_any p x y X)
  have HL : Hid (landed2 sr ⟨3, o, 0, 0, 0, 0, g, true⟩ = if ptE2 sr g o ≠ 0 then (Ob.zero, ptE2 sr g o) else if (ptS sr g (o + 1)).kind ≠ 1 ∧ (ptS sr g (o + 1)).kind ≠ 2 then (Ob.zero, 23) else if (ptS sr g o).kind ≠ 3 ∨ (ptS sr g o).dbl = true ∨ (ptS sr g (o + 1)).off ≠ 0 then (Ob.zero, 23) else (thingO (ptS sr g (o + 1)) (ptS sr g o).seg (ptS sr g o).off, 0)) := Lib.hid rfl
  obtain ⟨Z, hZ⟩ : ∃ Z, Z = landed2 sr ⟨3, o, 0, 0, 0, 0, g, true⟩ := ⟨_, rfl⟩
  rw [← hZ] at HL ⊢
  obtain ⟨hb1, hb2, hB0⟩ := two_boxes9 w ⟨3, o, 0, 0, 0, 0, g, true⟩ Ob.zero
  obtain ⟨W1, hW1⟩ : ∃ W1, W1 = (w.alloc (.cells (cellsP ⟨3, o, 0, 0, 0, 0, g, true⟩) 70)).alloc (.cells (cellsO Ob.zero) 129) := ⟨_, rfl⟩
  rw [← hW1] at hb1 hb2 hB0
  have HF0 := Lib.hid hb1
  have HO0 := Lib.hid hb2
  have HB0 := Lib.hid hB0
  obtain ⟨z0, z1, z2, z3, z4, z5, z6, z7⟩ := hb1.cells
  dsimp only at z0 z1 z2 z3 z4 z5 z6 z7
  unfold cellsP cellsO Ob.zero at hW1
  dsimp only at hW1
  unfold cellsP at HW ⊢
  dsimp only at HW ⊢
  generalize ptE2 sr g o = E at *
  generalize ptS sr g o = q at *
  obtain ⟨q0, q1, q2, q3, q4, q5, q6, q7⟩ := q
  generalize ptS sr g (o + 1) = r at *
  obtain ⟨r0, r1, r2, r3, r4, r5, r6, r7⟩ := r
  clear hZ hf ho hg hW hb1 hb2 hB0 hK H
  go_enter Tryz.func145, Tryz.ntmps145
  go_upto_region 1 with fail
  rw [← hW1]
  clear hW1
  go_wp2_with fail
  refine (HW.out _).mono ?_
  rintro e w2 ⟨rfl, hB2⟩
  have HF2 := Lib.hid (HF0.out.on hB2)
  have HO2 := Lib.hid (HO0.out.on hB2)
  have HB2 := Lib.hid (bseq' HB0.out hB2)
  clear hB2 z0 z1 z2 z3 z4 z5 z6 z7
  obtain ⟨z0, z1, z2, z3, z4, z5, z6, z7⟩ := HF2.out.cells
  dsimp only at z0 z1 z2 z3 z4 z5 z6 z7
  go_wp2_with fail
  refine (HP.out w2 (HH.out.on HK.out HB2.out)).mono ?_
  rintro e w3 ⟨u, rfl, hq, hB3⟩
  have HF3 := Lib.hid (HF2.out.on hB3)
  have HO3 := Lib.hid (HO2.out.on hB3)
  have HB3 := Lib.hid (bseq' HB2.out hB3)
  clear hB3 z0 z1 z2 z3 z4 z5 z6 z7
  by_cases hE : E = 0
  · subst hE
    obtain ⟨bq, rfl, hpq⟩ := hq rfl
    have HQ3 := Lib.hid hpq
    clear hpq hq
    obtain ⟨y0, y1, y2, y3, y4, y5, y6, y7⟩ := HQ3.out.cells1
    obtain ⟨n0, n1, n2, n3, n4, n5, n6, n7⟩ := HQ3.out.cells2
    dsimp only at y0 y1 y2 y3 y4 y5 y6 y7 n0 n1 n2 n3 n4 n5 n6 n7
    have HA1 := fun o => (HQ3.out.on ((Below.refl w3.heap.size w3).alloc (Nat.le_refl _) o)).cells1
    have x0 := fun o => (HA1 o).1
    have x1 := fun o => (HA1 o).2.1
    have x2 := fun o => (HA1 o).2.2.1
    have x3 := fun o => (HA1 o).2.2.2.1
    have x4 := fun o => (HA1 o).2.2.2.2.1
    have x5 := fun o => (HA1 o).2.2.2.2.2.1
    have x6 := fun o => (HA1 o).2.2.2.2.2.2.1
    have x7 := fun o => (HA1 o).2.2.2.2.2.2.2
    clear HA1
    have HA1 := fun o => (HQ3.out.on ((Below.refl w3.heap.size w3).alloc (Nat.le_refl _) o)).cells2
    have m0 := fun o => (HA1 o).1
    have m1 := fun o => (HA1 o).2.1
    have m2 := fun o => (HA1 o).2.2.1
    have m3 := fun o => (HA1 o).2.2.2.1
    have m4 := fun o => (HA1 o).2.2.2.2.1
    have m5 := fun o => (HA1 o).2.2.2.2.2.1
    have m6 := fun o => (HA1 o).2.2.2.2.2.2.1
    have m7 := fun o => (HA1 o).2.2.2.2.2.2.2
    clear HA1
    have HA2 := fun o o' => (HQ3.out.on (((Below.refl w3.heap.size w3).alloc (Nat.le_refl _) o).alloc (by simp) o')).cells1
    have v0 := fun o o' => (HA2 o o').1
    have v1 := fun o o' => (HA2 o o').2.1
    have v2 := fun o o' => (HA2 o o').2.2.1
    have v3 := fun o o' => (HA2 o o').2.2.2.1
    have v4 := fun o o' => (HA2 o o').2.2.2.2.1
    have v5 := fun o o' => (HA2 o o').2.2.2.2.2.1
    have v6 := fun o o' => (HA2 o o').2.2.2.2.2.2.1
    have v7 := fun o o' => (HA2 o o').2.2.2.2.2.2.2
    clear HA2
    have HA2 := fun o o' => (HQ3.out.on (((Below.refl w3.heap.size w3).alloc (Nat.le_refl _) o).alloc (by simp) o')).cells2
    have k0 := fun o o' => (HA2 o o').1
    have k1 := fun o o' => (HA2 o o').2.1
    have k2 := fun o o' => (HA2 o o').2.2.1
    have k3 := fun o o' => (HA2 o o').2.2.2.1
    have k4 := fun o o' => (HA2 o o').2.2.2.2.1
    have k5 := fun o o' => (HA2 o o').2.2.2.2.2.1
    have k6 := fun o o' => (HA2 o o').2.2.2.2.2.2.1
    have k7 := fun o o' => (HA2 o o').2.2.2.2.2.2.2
    clear HA2
    dsimp only at x0 x1 x2 x3 x4 x5 x6 x7 m0 m1 m2 m3 m4 m5 m6 m7 v0 v1 v2 v3 v4 v5 v6 v7 k0 k1 k2 k3 k4 k5 k6 k7
    go_upto_region 5 with fail
    go_cut [10, 11] (fun x y wx => ∃ b1 b2, x = .pointer (some ⟨b1, 0, none⟩) ∧ y = .pointer (some ⟨b2, 0, none⟩) ∧ PBox wx b1 ⟨q0, q1, q2, q3, q4, q5, q6, q7⟩ ∧ PBox wx b2 ⟨r0, r1, r2, r3, r4, r5, r6, r7⟩ ∧ Below w3.heap.size w3 wx)
    case first =>
      go_region
      all_goals (go_wp2_with fail; go_meet; first | (obtain ⟨e1, e2, e3⟩ := two_new w3 (cellsP ⟨q0, q1, q2, q3, q4, q5, q6, q7⟩) (cellsP ⟨r0, r1, r2, r3, r4, r5, r6, r7⟩) 70 70; exact ⟨_, _, rfl, rfl, e1, e2, e3⟩) | (obtain ⟨e1, e2, e3⟩ := two_new w3 (cellsP ⟨r0, r1, r2, r3, r4, r5, r6, r7⟩) (cellsP ⟨q0, q1, q2, q3, q4, q5, q6, q7⟩) 70 70; exact ⟨_, _, rfl, rfl, e2, e1, e3⟩))
    case rest =>
      obtain ⟨b1, b2, rfl, rfl, hp1, hp2, hB4⟩ := hcut
      clear x0 x1 x2 x3 x4 x5 x6 x7 m0 m1 m2 m3 m4 m5 m6 m7 v0 v1 v2 v3 v4 v5 v6 v7 k0 k1 k2 k3 k4 k5 k6 k7 y0 y1 y2 y3 y4 y5 y6 y7 n0 n1 n2 n3 n4 n5 n6 n7
      have HF4 := Lib.hid (HF3.out.on hB4)
      have HO4 := Lib.hid (HO3.out.on hB4)
      have HP4 := Lib.hid hp2
      have HQ4 := Lib.hid hp1
      have HB4 := Lib.hid (bseq' HB3.out hB4)
      clear hB4 hp1 hp2
      obtain ⟨z0, z1, z2, z3, z4, z5, z6, z7⟩ := HF4.out.cells
      obtain ⟨y0, y1, y2, y3, y4, y5, y6, y7⟩ := HP4.out.cells
      obtain ⟨n0, n1, n2, n3, n4, n5, n6, n7⟩ := HQ4.out.cells
      dsimp only at z0 z1 z2 z3 z4 z5 z6 z7 y0 y1 y2 y3 y4 y5 y6 y7 n0 n1 n2 n3 n4 n5 n6 n7
      by_cases hk : r0 = 1 ∨ r0 = 2
      · have HZ : Hid (Z = if q0 ≠ 3 ∨ q7 = true ∨ r1 ≠ 0 then (Ob.zero, 23) else (thingO ⟨r0, r1, r2, r3, r4, r5, r6, r7⟩ q6 q1, 0)) := Lib.hid (HL.out.trans (by rw [if_neg (by simp), if_neg (by omega)]))
        have bad : (q0 ≠ 3 ∨ q7 = true ∨ r1 ≠ 0) → Z = (Ob.zero, 23) := fun h => HZ.out.trans (if_pos h)
        have good : ¬ (q0 ≠ 3 ∨ q7 = true ∨ r1 ≠ 0) → Z = (thingO ⟨r0, r1, r2, r3, r4, r5, r6, r7⟩ q6 q1, 0) := fun h => HZ.out.trans (if_neg h)
        have HN4 := Lib.hid (HN.out ⟨r0, r1, r2, r3, r4, r5, r6, r7⟩ q6 q1 wc)
        clear HZ HL
        by_cases hq : q0 = 3
        · subst hq
          cases q7 with
          | true =>
            obtain rfl := bad (.inr (.inl rfl))
            clear bad good
            rcases hk with rfl | rfl
            all_goals
              obtain ⟨x0, x1, x2, x3, x4, x5, x6⟩ := HO4.out.cells
              obtain ⟨f0, f1, f2, f3, f4, f5, f6⟩ := HO4.out.frozens
              unfold Ob.zero at x0 x1 x2 x3 x4 x5 x6
              dsimp only at x0 x1 x2 x3 x4 x5 x6
              have HX := Lib.hid (HO4.out.set7 0 0 0 0 0 0 0)
              have HBX := Lib.hid (below_set7 (g := w.heap.size + 1) HB4.out (by omega) (.int .i64 0) (.int .i64 0) (.int .i64 0) (.int .i64 0) (.int .i64 0) (.int .i64 0) (.int .i64 0))
              go_wp2_with fail
              clear x0 x1 x2 x3 x4 x5 x6
              obtain ⟨x0, x1, x2, x3, x4, x5, x6⟩ := HX.out.cells
              dsimp only at x0 x1 x2 x3 x4 x5 x6
              refine bodyPost_ret (v := .tuple #[.agg (cellsO Ob.zero), .int .u16 23]) ?_ rfl ⟨rfl, HBX.out⟩
              simp [results, Tryz.f145, go_sem, cellsO, Ob.zero, x0, x1, x2, x3, x4, x5, x6]
          | false =>
            by_cases hr : r1 = 0
            · subst hr
              obtain rfl := good (by simp)
              generalize thingO ⟨r0, 0, r2, r3, r4, r5, r6, r7⟩ q6 q1 = O at *
              obtain ⟨o1, o2, o3, o4, o5, o6, o7⟩ := O
              unfold cellsP cellsO at HN4
              dsimp only at HN4
              clear bad good
              rcases hk with rfl | rfl
              all_goals
                go_wp2_with fail
                refine HN4.out.mono ?_
                rintro e w5 ⟨rfl, hB5⟩
                have HO5 := Lib.hid (HO4.out.on hB5)
                have HB5 := Lib.hid (bseq' HB4.out hB5)
                clear hB5 z0 z1 z2 z3 z4 z5 z6 z7 y0 y1 y2 y3 y4 y5 y6 y7
                obtain ⟨y0, y1, y2, y3, y4, y5, y6⟩ := HO5.out.cells
                obtain ⟨f0, f1, f2, f3, f4, f5, f6⟩ := HO5.out.frozens
                unfold Ob.zero at y0 y1 y2 y3 y4 y5 y6
                dsimp only at y0 y1 y2 y3 y4 y5 y6
                have HX := Lib.hid (HO5.out.set7 o1 o2 o3 o4 o5 o6 o7)
                have HBX := Lib.hid (below_set7 (g := w.heap.size + 1) HB5.out (by omega) (.int .i64 o1) (.int .i64 o2) (.int .i64 o3) (.int .i64 o4) (.int .i64 o5) (.int .i64 o6) (.int .i64 o7))
                go_wp2_with fail
                clear y0 y1 y2 y3 y4 y5 y6
                obtain ⟨y0, y1, y2, y3, y4, y5, y6⟩ := HX.out.cells
                dsimp only at y0 y1 y2 y3 y4 y5 y6
                refine bodyPost_ret (v := .tuple #[.agg (cellsO ⟨o1, o2, o3, o4, o5, o6, o7⟩), .int .u16 0]) ?_ rfl ⟨rfl, HBX.out⟩
                simp [results, Tryz.f145, go_sem, cellsO, y0, y1, y2, y3, y4, y5, y6]
            · have hr1 : (r1 != 0) = true := by simp [hr]
              obtain rfl := bad (.inr (.inr hr))
              clear bad good
              rcases hk with rfl | rfl
              all_goals
                obtain ⟨x0, x1, x2, x3, x4, x5, x6⟩ := HO4.out.cells
                obtain ⟨f0, f1, f2, f3, f4, f5, f6⟩ := HO4.out.frozens
                unfold Ob.zero at x0 x1 x2 x3 x4 x5 x6
                dsimp only at x0 x1 x2 x3 x4 x5 x6
                have HX := Lib.hid (HO4.out.set7 0 0 0 0 0 0 0)
                have HBX := Lib.hid (below_set7 (g := w.heap.size + 1) HB4.out (by omega) (.int .i64 0) (.int .i64 0) (.int .i64 0) (.int .i64 0) (.int .i64 0) (.int .i64 0) (.int .i64 0))
                go_wp2_with fail
                clear x0 x1 x2 x3 x4 x5 x6
                obtain ⟨x0, x1, x2, x3, x4, x5, x6⟩ := HX.out.cells
                dsimp only at x0 x1 x2 x3 x4 x5 x6
                refine bodyPost_ret (v := .tuple #[.agg (cellsO Ob.zero), .int .u16 23]) ?_ rfl ⟨rfl, HBX.out⟩
                simp [results, Tryz.f145, go_sem, cellsO, Ob.zero, x0, x1, x2, x3, x4, x5, x6]
        · have hq1 : (q0 != 3) = true := by simp [hq]
          obtain rfl := bad (.inl hq)
          clear bad good
          rcases hk with rfl | rfl
          all_goals
            obtain ⟨x0, x1, x2, x3, x4, x5, x6⟩ := HO4.out.cells
            obtain ⟨f0, f1, f2, f3, f4, f5, f6⟩ := HO4.out.frozens
            unfold Ob.zero at x0 x1 x2 x3 x4 x5 x6
            dsimp only at x0 x1 x2 x3 x4 x5 x6
            have HX := Lib.hid (HO4.out.set7 0 0 0 0 0 0 0)
            have HBX := Lib.hid (below_set7 (g := w.heap.size + 1) HB4.out (by omega) (.int .i64 0) (.int .i64 0) (.int .i64 0) (.int .i64 0) (.int .i64 0) (.int .i64 0) (.int .i64 0))
            go_wp2_with fail
            clear x0 x1 x2 x3 x4 x5 x6
            obtain ⟨x0, x1, x2, x3, x4, x5, x6⟩ := HX.out.cells
            dsimp only at x0 x1 x2 x3 x4 x5 x6
            refine bodyPost_ret (v := .tuple #[.agg (cellsO Ob.zero), .int .u16 23]) ?_ rfl ⟨rfl, HBX.out⟩
            simp [results, Tryz.f145, go_sem, cellsO, Ob.zero, x0, x1, x2, x3, x4, x5, x6]
      · have hk1 : (r0 != 1) = true := by simp; omega
        have hk2 : (r0 != 2) = true := by simp; omega
        obtain rfl : Z = (Ob.zero, 23) := HL.out.trans (by rw [if_neg (by simp), if_pos (by omega)])
        obtain ⟨x0, x1, x2, x3, x4, x5, x6⟩ := HO4.out.cells
        obtain ⟨f0, f1, f2, f3, f4, f5, f6⟩ := HO4.out.frozens
        unfold Ob.zero at x0 x1 x2 x3 x4 x5 x6
        dsimp only at x0 x1 x2 x3 x4 x5 x6
        have HX := Lib.hid (HO4.out.set7 0 0 0 0 0 0 0)
        have HBX := Lib.hid (below_set7 (g := w.heap.size + 1) HB4.out (by omega) (.int .i64 0) (.int .i64 0) (.int .i64 0) (.int .i64 0) (.int .i64 0) (.int .i64 0) (.int .i64 0))
        go_wp2_with fail
        clear x0 x1 x2 x3 x4 x5 x6
        obtain ⟨x0, x1, x2, x3, x4, x5, x6⟩ := HX.out.cells
        dsimp only at x0 x1 x2 x3 x4 x5 x6
        refine bodyPost_ret (v := .tuple #[.agg (cellsO Ob.zero), .int .u16 23]) ?_ rfl ⟨rfl, HBX.out⟩
        simp [results, Tryz.f145, go_sem, cellsO, Ob.zero, x0, x1, x2, x3, x4, x5, x6]
  · have hE1 : (E != 0) = true := by simp [hE]
    obtain rfl : Z = (Ob.zero, E) := HL.out.trans (if_pos hE)
    obtain ⟨x0, x1, x2, x3, x4, x5, x6⟩ := HO3.out.cells
    obtain ⟨f0, f1, f2, f3, f4, f5, f6⟩ := HO3.out.frozens
    unfold Ob.zero at x0 x1 x2 x3 x4 x5 x6
    dsimp only at x0 x1 x2 x3 x4 x5 x6
    have HX := Lib.hid (HO3.out.set7 0 0 0 0 0 0 0)
    have HBX := Lib.hid (below_set7 (g := w.heap.size + 1) HB3.out (by omega) (.int .i64 0) (.int .i64 0) (.int .i64 0) (.int .i64 0) (.int .i64 0) (.int .i64 0) (.int .i64 0))
    go_wp2_with fail
    clear x0 x1 x2 x3 x4 x5 x6
    obtain ⟨x0, x1, x2, x3, x4, x5, x6⟩ := HX.out.cells
    dsimp only at x0 x1 x2 x3 x4 x5 x6
    refine bodyPost_ret (v := .tuple #[.agg (cellsO Ob.zero), .int .u16 E]) ?_ rfl ⟨rfl, HBX.out⟩
    simp [results, Tryz.f145, go_sem, cellsO, Ob.zero, x0, x1, x2, x3, x4, x5, x6]

end Go.Proofs.YtmmlfnblodfjbaaGreatDoor

namespace Go.Proofs.YtmmlfnblodfjbaaGreatDoor
open Go.RowKit Go.Deep

theorem okp_off {p : Pt} (hp : OkP p) : -536870912 ≤ p.off ∧ p.off < 536870912 := by
  rcases hp with e | ⟨_, h, _⟩ | ⟨_, h, _⟩ | ⟨_, h, _⟩
  · rw [e]; decide
  · exact h
  · exact h
  · omega
theorem landed_any {K : World → Prop} {s : Value} {sr : Sr} (H : SrcOK K s sr) (f : Pt) (w : World) (hK : K w) (hf : OkP f) (hk : f.kind = 3) :
    Calls Tryz.prog 145 #[s, .agg (cellsP f)] w (ObR (landedO sr f) w) := by
  by_cases hd : f.dbl = true
  · have := landed_2 H f w hK hf hk hd
    unfold landedO
    rwa [if_pos hd]
  · have := landed_1 H f w hK hf hk (by simpa using hd)
    unfold landedO
    rwa [if_neg hd]

set_option maxRecDepth 100000 in
set_option maxHeartbeats 2000000 in
theorem target_any {K : World → Prop} {s : Value} {sr : Sr} (H : SrcOK K s sr) (g a : Int) (w : World) (hK : K w) (hg : In64 g) (ha : In64 a) :
    Calls Tryz.prog 127 #[s, .int .i64 g, .int .i64 a] w (ObR (targetO sr g a) w) := by
  obtain ⟨t, v, rfl⟩ := H.form
  have HH := Lib.hid H
  have HK := Lib.hid hK
  have HP := Lib.hid (fun X (hX : K X) => pointers_1 H g a X hX hg ha)
  have HOk := Lib.hid (ptS_ok H.good g a)
  have HN := Lib.hid (fun X => near9_any (ptS sr g a) g a X (okp_off (ptS_ok H.good g a)) ha)
  have HLd := Lib.hid (fun X (hX : K X) (hk : (ptS sr g a).kind = 3) => landed_any H (ptS sr g a) X hX (ptS_ok H.good g a) hk)
  have HL : Hid (targetO sr g a = if ptE sr g a ≠ 0 then (Ob.zero, ptE sr g a) else if (ptS sr g a).kind = 0 then (Ob.zero, 0) else if (ptS sr g a).kind = 3 then landedO sr (ptS sr g a) else (nearO (ptS sr g a) g a, 0)) := Lib.hid rfl
  have hd := (okq_bd (.inl (ptS_ok H.good g a))).2.2.2.2
  obtain ⟨Z, hZ⟩ : ∃ Z, Z = targetO sr g a := ⟨_, rfl⟩
  rw [← hZ] at HL ⊢
  have HO0 := Lib.hid (OBox.new w Ob.zero)
  have HB0 : Hid (Below w.heap.size w (w.alloc (.cells (cellsO Ob.zero) 129))) := Lib.hid ((Below.refl _ _).alloc (Nat.le_refl _) _)
  obtain ⟨W1, hW1⟩ : ∃ W1, W1 = w.alloc (.cells (cellsO Ob.zero) 129) := ⟨_, rfl⟩
  rw [← hW1] at HO0 HB0
  unfold cellsO Ob.zero at hW1
  dsimp only at hW1
  generalize ptE sr g a = E at *
  generalize ptS sr g a = q at *
  generalize landedO sr q = T at *
  generalize nearO q g a = O at *
  obtain ⟨q0, q1, q2, q3, q4, q5, q6, q7⟩ := q
  dsimp only at hd
  clear hZ hg ha hK H
  go_enter Tryz.func127, Tryz.ntmps127
  go_upto_region 1 with fail
  rw [← hW1]
  clear hW1
  go_wp2_with fail
  refine (HP.out W1 (HH.out.on HK.out HB0.out)).mono ?_
  rintro e w2 ⟨u, rfl, hq, hB2⟩
  have HO2 := Lib.hid (HO0.out.on hB2)
  have HB2 := Lib.hid (bseq' HB0.out hB2)
  clear hB2
  by_cases hE : E = 0
  · subst hE
    obtain ⟨bq, rfl, hpq⟩ := hq rfl
    have HQ3 := Lib.hid hpq
    clear hpq hq
    obtain ⟨y0, y1, y2, y3, y4, y5, y6, y7⟩ := HQ3.out.cells
    dsimp only at y0 y1 y2 y3 y4 y5 y6 y7
    have hB3 : Below w2.heap.size w2 (w2.alloc (.cells (cellsP ⟨q0, q1, q2, q3, q4, q5, q6, q7⟩) 70)) := (Below.refl _ _).alloc (Nat.le_refl _) _
    have HO3 := Lib.hid (HO2.out.on hB3)
    have HP3 := Lib.hid (PBox.new w2 ⟨q0, q1, q2, q3, q4, q5, q6, q7⟩)
    have HB3 := Lib.hid (bseq' HB2.out hB3)
    obtain ⟨W3, hW3⟩ : ∃ W3, W3 = w2.alloc (.cells (cellsP ⟨q0, q1, q2, q3, q4, q5, q6, q7⟩) 70) := ⟨_, rfl⟩
    rw [← hW3] at HO3 HP3 HB3
    unfold cellsP at hW3
    dsimp only at hW3
    clear hB3
    go_upto_region 5 with fail
    rw [← hW3]
    clear hW3 y0 y1 y2 y3 y4 y5 y6 y7
    obtain ⟨y0, y1, y2, y3, y4, y5, y6, y7⟩ := HP3.out.cells
    obtain ⟨x0, x1, x2, x3, x4, x5, x6⟩ := HO3.out.cells
    obtain ⟨f0, f1, f2, f3, f4, f5, f6⟩ := HO3.out.frozens
    unfold Ob.zero at x0 x1 x2 x3 x4 x5 x6
    dsimp only at x0 x1 x2 x3 x4 x5 x6 y0 y1 y2 y3 y4 y5 y6 y7
    by_cases h0 : q0 = 0
    · subst h0
      obtain rfl : Z = (Ob.zero, 0) := HL.out.trans (by rw [if_neg (by simp), if_pos rfl])
      have HX := Lib.hid (HO3.out.set7 0 0 0 0 0 0 0)
      have HBX := Lib.hid (below_set7 (g := w.heap.size) HB3.out (by omega) (.int .i64 0) (.int .i64 0) (.int .i64 0) (.int .i64 0) (.int .i64 0) (.int .i64 0) (.int .i64 0))
      go_wp2_with fail
      clear x0 x1 x2 x3 x4 x5 x6
      obtain ⟨x0, x1, x2, x3, x4, x5, x6⟩ := HX.out.cells
      dsimp only at x0 x1 x2 x3 x4 x5 x6
      refine bodyPost_ret (v := .tuple #[.agg (cellsO Ob.zero), .int .u16 0]) ?_ rfl ⟨rfl, HBX.out⟩
      simp [results, Tryz.f127, go_sem, cellsO, Ob.zero, x0, x1, x2, x3, x4, x5, x6]
    · by_cases h3 : q0 = 3
      · subst h3
        obtain rfl : Z = T := HL.out.trans (by rw [if_neg (by simp), if_neg (by decide), if_pos rfl])
        obtain ⟨O', D⟩ := Z
        obtain ⟨o1, o2, o3, o4, o5, o6, o7⟩ := O'
        have HL3 := HLd.out _ (HH.out.on HK.out HB3.out) rfl
        unfold cellsP at HL3
        dsimp only at HL3
        go_wp2_with fail
        refine HL3.mono ?_
        rintro e w5 ⟨rfl, hB5⟩
        unfold cellsO
        dsimp only
        have HO5 := Lib.hid (HO3.out.on hB5)
        have HB5 := Lib.hid (bseq' HB3.out hB5)
        clear hB5 x0 x1 x2 x3 x4 x5 x6 y0 y1 y2 y3 y4 y5 y6 y7 f0 f1 f2 f3 f4 f5 f6
        obtain ⟨y0, y1, y2, y3, y4, y5, y6⟩ := HO5.out.cells
        obtain ⟨f0, f1, f2, f3, f4, f5, f6⟩ := HO5.out.frozens
        unfold Ob.zero at y0 y1 y2 y3 y4 y5 y6
        dsimp only at y0 y1 y2 y3 y4 y5 y6
        have HX := Lib.hid (HO5.out.set7 o1 o2 o3 o4 o5 o6 o7)
        have HBX := Lib.hid (below_set7 (g := w.heap.size) HB5.out (by omega) (.int .i64 o1) (.int .i64 o2) (.int .i64 o3) (.int .i64 o4) (.int .i64 o5) (.int .i64 o6) (.int .i64 o7))
        go_wp2_with fail
        clear y0 y1 y2 y3 y4 y5 y6
        obtain ⟨y0, y1, y2, y3, y4, y5, y6⟩ := HX.out.cells
        dsimp only at y0 y1 y2 y3 y4 y5 y6
        refine bodyPost_ret (v := .tuple #[.agg (cellsO ⟨o1, o2, o3, o4, o5, o6, o7⟩), .int .u16 D]) ?_ rfl ⟨rfl, HBX.out⟩
        simp [results, Tryz.f127, go_sem, cellsO, y0, y1, y2, y3, y4, y5, y6]
      · obtain rfl : Z = (O, 0) := HL.out.trans (by rw [if_neg (by simp), if_neg h0, if_neg h3])
        obtain ⟨o1, o2, o3, o4, o5, o6, o7⟩ := O
        have HN3 := Lib.hid (HN.out W3)
        unfold cellsP cellsO at HN3
        dsimp only at HN3
        have hk : q0 = 1 ∨ q0 = 2 := by omega
        clear hd h0 h3
        rcases hk with rfl | rfl
        all_goals
          go_wp2_with fail
          refine HN3.out.mono ?_
          rintro e w5 ⟨rfl, hB5⟩
          have HO5 := Lib.hid (HO3.out.on hB5)
          have HB5 := Lib.hid (bseq' HB3.out hB5)
          clear hB5 x0 x1 x2 x3 x4 x5 x6 y0 y1 y2 y3 y4 y5 y6 y7 f0 f1 f2 f3 f4 f5 f6
          obtain ⟨y0, y1, y2, y3, y4, y5, y6⟩ := HO5.out.cells
          obtain ⟨f0, f1, f2, f3, f4, f5, f6⟩ := HO5.out.frozens
          unfold Ob.zero at y0 y1 y2 y3 y4 y5 y6
          dsimp only at y0 y1 y2 y3 y4 y5 y6
          have HX := Lib.hid (HO5.out.set7 o1 o2 o3 o4 o5 o6 o7)
          have HBX := Lib.hid (below_set7 (g := w.heap.size) HB5.out (by omega) (.int .i64 o1) (.int .i64 o2) (.int .i64 o3) (.int .i64 o4) (.int .i64 o5) (.int .i64 o6) (.int .i64 o7))
          go_wp2_with fail
          clear y0 y1 y2 y3 y4 y5 y6
          obtain ⟨y0, y1, y2, y3, y4, y5, y6⟩ := HX.out.cells
          dsimp only at y0 y1 y2 y3 y4 y5 y6
          refine bodyPost_ret (v := .tuple #[.agg (cellsO ⟨o1, o2, o3, o4, o5, o6, o7⟩), .int .u16 0]) ?_ rfl ⟨rfl, HBX.out⟩
          simp [results, Tryz.f127, go_sem, cellsO, y0, y1, y2, y3, y4, y5, y6]
  · have hE1 : (E != 0) = true := by simp [hE]
    obtain rfl : Z = (Ob.zero, E) := HL.out.trans (if_pos hE)
    obtain ⟨x0, x1, x2, x3, x4, x5, x6⟩ := HO2.out.cells
    obtain ⟨f0, f1, f2, f3, f4, f5, f6⟩ := HO2.out.frozens
    unfold Ob.zero at x0 x1 x2 x3 x4 x5 x6
    dsimp only at x0 x1 x2 x3 x4 x5 x6
    have HX := Lib.hid (HO2.out.set7 0 0 0 0 0 0 0)
    have HBX := Lib.hid (below_set7 (g := w.heap.size) HB2.out (by omega) (.int .i64 0) (.int .i64 0) (.int .i64 0) (.int .i64 0) (.int .i64 0) (.int .i64 0) (.int .i64 0))
    go_wp2_with fail
    clear x0 x1 x2 x3 x4 x5 x6
    obtain ⟨x0, x1, x2, x3, x4, x5, x6⟩ := HX.out.cells
    dsimp only at x0 x1 x2 x3 x4 x5 x6
    refine bodyPost_ret (v := .tuple #[.agg (cellsO Ob.zero), .int .u16 E]) ?_ rfl ⟨rfl, HBX.out⟩
    simp [results, Tryz.f127, go_sem, cellsO, Ob.zero, x0, x1, x2, x3, x4, x5, x6]

end Go.Proofs.YtmmlfnblodfjbaaGreatDoor

namespace Go.Proofs.YtmmlfnblodfjbaaGreatDoor
open Go.RowKit Go.Deep

theorem sr_in {sr : Sr} (h : sr.Good) (g a : Int) (hk : (targetO sr g a).1.kind ≠ 0) (h0 : (targetO sr g a).2 = 0) : OkQ (ptrO (targetO sr g a).1) := (target_ok h g a h0 hk).1
theorem near_in64 (p : Pt) (a : Int) : In64 (nearA p a) := by
  unfold nearA In64
  split
  · assumption
  · omega
theorem landed_in {sr : Sr} (h : sr.Good) (f : Pt) (hf : OkP f) : In64 (landedO sr f).1.seg ∧ In64 (landedO sr f).1.at_ := by
  have hz : In64 Ob.zero.seg ∧ In64 Ob.zero.at_ := by unfold In64 Ob.zero; decide
  have hs : ∀ p : Pt, OkP p → In64 p.seg ∧ In64 p.off := by
    intro p hp
    unfold In64
    rcases hp with rfl | ⟨h1, h2, h3, h4, h5, h6, h7, h8, -⟩ | ⟨h1, h2, h3, h4, h5, h6, h7, h8⟩ | ⟨h1, h2, h3, h4, h5, h6, h7⟩
    · decide
    · omega
    · omega
    · omega
  unfold landedO landed1 landed2
  repeat' split
  all_goals first | exact hz | exact ⟨(hs _ hf).1, near_in64 _ _⟩ | exact hs _ (ptS_ok h _ _)
theorem target_in {sr : Sr} (h : sr.Good) (g a : Int) (hg : In64 g) : In64 (targetO sr g a).1.seg ∧ In64 (targetO sr g a).1.at_ := by
  have hz : In64 Ob.zero.seg ∧ In64 Ob.zero.at_ := by unfold In64 Ob.zero; decide
  unfold targetO
  by_cases h1 : ptE sr g a ≠ 0
  · rw [if_pos h1]; exact hz
  rw [if_neg h1]
  by_cases h2 : (ptS sr g a).kind = 0
  · rw [if_pos h2]; exact hz
  rw [if_neg h2]
  by_cases h3 : (ptS sr g a).kind = 3
  · rw [if_pos h3]; exact landed_in h _ (ptS_ok h g a)
  · rw [if_neg h3]; exact ⟨hg, near_in64 _ _⟩

set_option maxRecDepth 100000 in
set_option maxHeartbeats 8000000 in
theorem follow_any {K : World → Prop} {s : Value} {sr : Sr} (H : SrcOK K s sr) (g a : Int) (w : World) (hK : K w) (hg : In64 g) (ha : In64 a) :
    Calls Tryz.prog 99 #[s, .int .i64 g, .int .i64 a] w (ObR (followO sr g a) w) := by
  have hin := target_in H.good g a hg
  have hq := sr_in H.good g a
  obtain ⟨t, v, rfl⟩ := H.form
  have HH := Lib.hid H
  have HK := Lib.hid hK
  have HT := Lib.hid (fun X (hX : K X) => target_any H g a X hX hg ha)
  have HS := Lib.hid (fun X (hX : K X) => H.sizes X hX)
  have HGd := Lib.hid H.good
  have HL : Hid (followO sr g a = checkO sr (targetO sr g a)) := Lib.hid rfl
  rw [HL.out]
  have HO0 := Lib.hid (OBox.new w Ob.zero)
  have HB0 : Hid (Below w.heap.size w (w.alloc (.cells (cellsO Ob.zero) 129))) := Lib.hid ((Below.refl _ _).alloc (Nat.le_refl _) _)
  obtain ⟨W1, hW1⟩ : ∃ W1, W1 = w.alloc (.cells (cellsO Ob.zero) 129) := ⟨_, rfl⟩
  rw [← hW1] at HO0 HB0
  unfold cellsO Ob.zero at hW1
  dsimp only at hW1
  generalize targetO sr g a = T at *
  obtain ⟨O, D⟩ := T
  dsimp only at hin hq
  have HC : Hid (checkO sr (O, D) = if D ≠ 0 ∨ O.kind = 0 then (Ob.zero, D) else if wordE (ptrO O) ≠ 0 then (Ob.zero, wordE (ptrO O)) else if withinB sr.sz O.seg O.at_ (wordsO O) = true then (O, 0) else (Ob.zero, 20)) := Lib.hid rfl
  obtain ⟨Z, hZ⟩ : ∃ Z, Z = checkO sr (O, D) := ⟨_, rfl⟩
  rw [← hZ] at HC ⊢
  have HPt := Lib.hid (fun X => ptrto_any O X)
  have HPw := Lib.hid (fun X (h : OkQ (ptrO O)) => pwords_q (ptrO O) X h)
  have HBd := Lib.hid (fun h : OkQ (ptrO O) => wordN_bd h)
  have hWo : wordsO O = wordN (ptrO O) := rfl
  rw [hWo] at HC
  generalize ptrO O = P at *
  generalize wordE P = G at *
  generalize wordN P = N at *
  obtain ⟨o1, o2, o3, o4, o5, o6, o7⟩ := O
  obtain ⟨O', hO'⟩ : ∃ O' : Ob, O' = ⟨o1, o2, o3, o4, o5, o6, o7⟩ := ⟨_, rfl⟩
  rw [← hO'] at HC
  have HO' := Lib.hid hO'
  dsimp only at hin hq
  have HCk : Hid (O'.kind = o1 ∧ O'.seg = o2 ∧ O'.at_ = o3) := Lib.hid (by rw [hO']; exact ⟨rfl, rfl, rfl⟩)
  rw [HCk.out.1, HCk.out.2.1, HCk.out.2.2] at HC
  clear hZ HL hg ha hK H hWo HCk hO'
  have HIn := Lib.hid hin
  clear hin
  go_enter Tryz.func99, Tryz.ntmps99
  go_upto_region 1 with fail
  rw [← hW1]
  clear hW1
  go_wp2_with fail
  refine (HT.out W1 (HH.out.on HK.out HB0.out)).mono ?_
  rintro e w2 ⟨rfl, hB2⟩
  unfold cellsO
  dsimp only
  have hB3 : Below w2.heap.size w2 (w2.alloc (.cells (cellsO ⟨o1, o2, o3, o4, o5, o6, o7⟩) 129)) := (Below.refl _ _).alloc (Nat.le_refl _) _
  have HO3 := Lib.hid ((HO0.out.on hB2).on hB3)
  have HP3 := Lib.hid (OBox.new w2 ⟨o1, o2, o3, o4, o5, o6, o7⟩)
  have HB3 := Lib.hid (bseq' (bseq' HB0.out hB2) hB3)
  obtain ⟨W3, hW3⟩ : ∃ W3, W3 = w2.alloc (.cells (cellsO ⟨o1, o2, o3, o4, o5, o6, o7⟩) 129) := ⟨_, rfl⟩
  rw [← hW3] at HO3 HP3 HB3
  unfold cellsO at hW3
  dsimp only at hW3
  clear hB3 hB2
  go_upto_region 4 with fail
  rw [← hW3]
  clear hW3
  obtain ⟨y0, y1, y2, y3, y4, y5, y6⟩ := HP3.out.cells
  dsimp only at y0 y1 y2 y3 y4 y5 y6
  by_cases hD : D = 0
  · subst hD
    by_cases h0 : o1 = 0
    · subst h0
      obtain rfl : Z = (Ob.zero, 0) := HC.out.trans (if_pos (.inr rfl))
      obtain ⟨x0, x1, x2, x3, x4, x5, x6⟩ := HO3.out.cells
      obtain ⟨f0, f1, f2, f3, f4, f5, f6⟩ := HO3.out.frozens
      unfold Ob.zero at x0 x1 x2 x3 x4 x5 x6
      dsimp only at x0 x1 x2 x3 x4 x5 x6
      have HX := Lib.hid (HO3.out.set7 0 0 0 0 0 0 0)
      have HBX := Lib.hid (below_set7 (g := w.heap.size) HB3.out (by omega) (.int .i64 0) (.int .i64 0) (.int .i64 0) (.int .i64 0) (.int .i64 0) (.int .i64 0) (.int .i64 0))
      go_wp2_with fail
      clear x0 x1 x2 x3 x4 x5 x6
      obtain ⟨x0, x1, x2, x3, x4, x5, x6⟩ := HX.out.cells
      dsimp only at x0 x1 x2 x3 x4 x5 x6
      refine bodyPost_ret (v := .tuple #[.agg (cellsO Ob.zero), .int .u16 0]) ?_ rfl ⟨rfl, HBX.out⟩
      simp [results, Tryz.f99, go_sem, cellsO, Ob.zero, x0, x1, x2, x3, x4, x5, x6]
    · have h01 : (o1 == 0) = false := by simp [h0]
      have hQ := hq h0 rfl
      have HPw3 := Lib.hid (fun X => HPw.out X hQ)
      have hbd := HBd.out hQ
      have HC2 : Hid (Z = if G ≠ 0 then (Ob.zero, G) else if withinB sr.sz o2 o3 N = true then (O', 0) else (Ob.zero, 20)) := Lib.hid (HC.out.trans (if_neg (by simp [h0])))
      have HPt3 := Lib.hid (HPt.out W3)
      unfold cellsO at HPt3
      dsimp only at HPt3
      clear hq HC HPw HBd
      go_wp2_with fail
      refine HPt3.out.mono ?_
      rintro e w4 ⟨rfl, hB4⟩
      have HO4 := Lib.hid (HO3.out.on hB4)
      have HP4 := Lib.hid (HP3.out.on hB4)
      have HB4 := Lib.hid (bseq' HB3.out hB4)
      clear hB4
      go_wp2_with fail
      refine (HPw3.out w4).mono ?_
      rintro e w5 ⟨rfl, hB5⟩
      have HO5 := Lib.hid (HO4.out.on hB5)
      have HP5 := Lib.hid (HP4.out.on hB5)
      have HB5 := Lib.hid (bseq' HB4.out hB5)
      clear hB5 y0 y1 y2 y3 y4 y5 y6
      by_cases hG : G = 0
      · subst hG
        have HC3 : Hid (Z = if withinB sr.sz o2 o3 N = true then (O', 0) else (Ob.zero, 20)) := Lib.hid (HC2.out.trans (if_neg (by simp)))
        obtain ⟨y0, y1, y2, y3, y4, y5, y6⟩ := HP5.out.cells
        dsimp only at y0 y1 y2 y3 y4 y5 y6
        have HK5 := Lib.hid (HH.out.on HK.out HB5.out)
        have HWn := Lib.hid (fun u X (h : NumS .i64 X X.heap.size u sr.sz) => awithin_any u sr.sz o2 o3 N X.heap.size X h HGd.out.sz HIn.out.2 ⟨by omega, by omega⟩)
        generalize withinB sr.sz o2 o3 N = B at *
        go_upto_region 9 with fail
        have hT0 : Below w5.heap.size w5 w5.drew := (Below.refl _ _).drew
        have HCel : Hid (∀ X, Below w5.heap.size w5 X → X.cell? ⟨w2.heap.size, 1, none⟩ = some (.int .i64 o2) ∧ X.cell? ⟨w2.heap.size, 2, none⟩ = some (.int .i64 o3)) := Lib.hid (fun X hX => ⟨(HP5.out.on hX).cells.2.1, (HP5.out.on hX).cells.2.2.1⟩)
        have HS5 := Lib.hid (fun X (hX : Below w5.heap.size w5 X) => HS.out X (HH.out.on HK5.out hX))
        obtain ⟨C, hC⟩ : ∃ C, C = !B := ⟨_, rfl⟩
        go_cut [48] (fun x wx => x = .bool C ∧ Below w5.heap.size w5 wx)
        case first =>
          go_region_held3 (fun w' => w'.cell? ⟨w2.heap.size, 1, none⟩ = some (.int .i64 o2) ∧ w'.cell? ⟨w2.heap.size, 2, none⟩ = some (.int .i64 o3)) (first | exact HCel.out _ hT2 | exact HCel.out _ hT0) (first
            | (go_at_call 131; with_reducible refine (HS5.out _ hT0).mono ?_; rintro e w6 ⟨u, rfl, hN6, hB6⟩; have hT2 := bseq' hT0 hB6)
            | (go_at_call 130; with_reducible refine (HWn.out _ _ hN6).mono ?_; rintro e w7 ⟨rfl, rfl⟩))
          all_goals go_wp2_with fail
          all_goals go_meet
          all_goals exact ⟨congrArg Value.bool hC.symm, hT2⟩
        case rest =>
          obtain ⟨rfl, hB6⟩ := hcut
          have HO6 := Lib.hid (HO5.out.on hB6)
          have HP6 := Lib.hid (HP5.out.on hB6)
          have HB6 := Lib.hid (bseq' HB5.out hB6)
          clear hB6 hT0 y0 y1 y2 y3 y4 y5 y6
          cases C with
          | false =>
            obtain rfl : B = true := by simpa using hC
            clear hC
            obtain rfl : Z = (O', 0) := HC3.out.trans (if_pos rfl)
            obtain rfl := HO'.out
            obtain ⟨y0, y1, y2, y3, y4, y5, y6⟩ := HP6.out.cells
            dsimp only at y0 y1 y2 y3 y4 y5 y6
            obtain ⟨x0, x1, x2, x3, x4, x5, x6⟩ := HO6.out.cells
            obtain ⟨f0, f1, f2, f3, f4, f5, f6⟩ := HO6.out.frozens
            unfold Ob.zero at x0 x1 x2 x3 x4 x5 x6
            dsimp only at x0 x1 x2 x3 x4 x5 x6
            have HX := Lib.hid (HO6.out.set7 o1 o2 o3 o4 o5 o6 o7)
            have HBX := Lib.hid (below_set7 (g := w.heap.size) HB6.out (by omega) (.int .i64 o1) (.int .i64 o2) (.int .i64 o3) (.int .i64 o4) (.int .i64 o5) (.int .i64 o6) (.int .i64 o7))
            go_wp2_with fail
            clear x0 x1 x2 x3 x4 x5 x6
            obtain ⟨x0, x1, x2, x3, x4, x5, x6⟩ := HX.out.cells
            dsimp only at x0 x1 x2 x3 x4 x5 x6
            refine bodyPost_ret (v := .tuple #[.agg (cellsO ⟨o1, o2, o3, o4, o5, o6, o7⟩), .int .u16 0]) ?_ rfl ⟨rfl, HBX.out⟩
            simp [results, Tryz.f99, go_sem, cellsO, x0, x1, x2, x3, x4, x5, x6]
          | true =>
            obtain rfl : B = false := by simpa using hC
            clear hC
            obtain rfl : Z = (Ob.zero, 20) := HC3.out.trans (if_neg (by simp))
            obtain ⟨x0, x1, x2, x3, x4, x5, x6⟩ := HO6.out.cells
            obtain ⟨f0, f1, f2, f3, f4, f5, f6⟩ := HO6.out.frozens
            unfold Ob.zero at x0 x1 x2 x3 x4 x5 x6
            dsimp only at x0 x1 x2 x3 x4 x5 x6
            have HX := Lib.hid (HO6.out.set7 0 0 0 0 0 0 0)
            have HBX := Lib.hid (below_set7 (g := w.heap.size) HB6.out (by omega) (.int .i64 0) (.int .i64 0) (.int .i64 0) (.int .i64 0) (.int .i64 0) (.int .i64 0) (.int .i64 0))
            go_wp2_with fail
            clear x0 x1 x2 x3 x4 x5 x6
            obtain ⟨x0, x1, x2, x3, x4, x5, x6⟩ := HX.out.cells
            dsimp only at x0 x1 x2 x3 x4 x5 x6
            refine bodyPost_ret (v := .tuple #[.agg (cellsO Ob.zero), .int .u16 20]) ?_ rfl ⟨rfl, HBX.out⟩
            simp [results, Tryz.f99, go_sem, cellsO, Ob.zero, x0, x1, x2, x3, x4, x5, x6]
      · have hG1 : (G != 0) = true := by simp [hG]
        obtain rfl : Z = (Ob.zero, G) := HC2.out.trans (if_pos hG)
        obtain ⟨x0, x1, x2, x3, x4, x5, x6⟩ := HO5.out.cells
        obtain ⟨f0, f1, f2, f3, f4, f5, f6⟩ := HO5.out.frozens
        unfold Ob.zero at x0 x1 x2 x3 x4 x5 x6
        dsimp only at x0 x1 x2 x3 x4 x5 x6
        have HX := Lib.hid (HO5.out.set7 0 0 0 0 0 0 0)
        have HBX := Lib.hid (below_set7 (g := w.heap.size) HB5.out (by omega) (.int .i64 0) (.int .i64 0) (.int .i64 0) (.int .i64 0) (.int .i64 0) (.int .i64 0) (.int .i64 0))
        go_wp2_with fail
        clear x0 x1 x2 x3 x4 x5 x6
        obtain ⟨x0, x1, x2, x3, x4, x5, x6⟩ := HX.out.cells
        dsimp only at x0 x1 x2 x3 x4 x5 x6
        refine bodyPost_ret (v := .tuple #[.agg (cellsO Ob.zero), .int .u16 G]) ?_ rfl ⟨rfl, HBX.out⟩
        simp [results, Tryz.f99, go_sem, cellsO, Ob.zero, x0, x1, x2, x3, x4, x5, x6]
  · have hD1 : (D != 0) = true := by simp [hD]
    obtain rfl : Z = (Ob.zero, D) := HC.out.trans (if_pos (.inl hD))
    obtain ⟨x0, x1, x2, x3, x4, x5, x6⟩ := HO3.out.cells
    obtain ⟨f0, f1, f2, f3, f4, f5, f6⟩ := HO3.out.frozens
    unfold Ob.zero at x0 x1 x2 x3 x4 x5 x6
    dsimp only at x0 x1 x2 x3 x4 x5 x6
    have HX := Lib.hid (HO3.out.set7 0 0 0 0 0 0 0)
    have HBX := Lib.hid (below_set7 (g := w.heap.size) HB3.out (by omega) (.int .i64 0) (.int .i64 0) (.int .i64 0) (.int .i64 0) (.int .i64 0) (.int .i64 0) (.int .i64 0))
    go_wp2_with fail
    clear x0 x1 x2 x3 x4 x5 x6
    obtain ⟨x0, x1, x2, x3, x4, x5, x6⟩ := HX.out.cells
    dsimp only at x0 x1 x2 x3 x4 x5 x6
    refine bodyPost_ret (v := .tuple #[.agg (cellsO Ob.zero), .int .u16 D]) ?_ rfl ⟨rfl, HBX.out⟩
    simp [results, Tryz.f99, go_sem, cellsO, Ob.zero, x0, x1, x2, x3, x4, x5, x6]

end Go.Proofs.YtmmlfnblodfjbaaGreatDoor

namespace Go.Proofs.YtmmlfnblodfjbaaGreatDoor
open Go.RowKit Go.Deep

/-- the box of a thing and another one's -/
theorem two_objs (w : World) (p o : Ob) : OBox ((w.alloc (.cells (cellsO p) 129)).alloc (.cells (cellsO o) 129)) w.heap.size p ∧ OBox ((w.alloc (.cells (cellsO p) 129)).alloc (.cells (cellsO o) 129)) (w.heap.size + 1) o ∧ Below w.heap.size w ((w.alloc (.cells (cellsO p) 129)).alloc (.cells (cellsO o) 129)) := by
  refine ⟨(OBox.new w p).on ((Below.refl _ _).alloc (Nat.le_refl _) _), ?_, ((Below.refl _ _).alloc (Nat.le_refl _) _).alloc (by simp) _⟩
  have := OBox.new (w.alloc (.cells (cellsO p) 129)) o
  rwa [World.size_alloc] at this

end Go.Proofs.YtmmlfnblodfjbaaGreatDoor
