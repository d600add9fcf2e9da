/-
  Layer 10, the law: known: the chapter's example.
-/
import Derived.Test.YtdfldfnjjjcleaaDoorZTeSame
import Derived.Test.YtdfldfnjjjcleaaDoorZTeC
import Derived.Test.YtdfldfnjjjcleaaDoorZTaA
import Derived.Test.YtdfldfnjjjcleaaDoorZTpA
import Derived.Test.YtdfldfnjjjcleaaDoorZTdPlain
import Derived.Test.YtdfldfnjjjcleaaDoorZBuH

namespace Go.Proofs.YtdfldfnjjjcleaaDoor
open Go.RowKit Go.Deep

def seven : Tr := .mk 1 0 [7] [] []
theorem seven_build : buildT seven 9 = ([[4294967296, 7]], 0) := by decide
theorem seven_ask : askT seven [] 0 = (⟨1, 0, 0, 0, 7⟩, 0) := rfl
theorem seven_same : sameT seven seven = true := by decide
theorem seven_cost : costT seven = 2 := rfl
theorem seven_paths : (pathsT seven 9).length = 2 := by decide
theorem seven_fine : FineT seven ∧ highT seven ≤ 32 := deep_fine seven 32 (by decide)
theorem seven_decode : decodeT [[4294967296, 7]] = (seven, 0) := by
  have h := build_back (t := seven) (z := 9) (by rw [seven_build]) (by unfold seven BytesT; simp [BytesAll]) (by decide)
  rw [seven_build] at h
  exact h
theorem seven10_V (w : World) : TrV (w.alloc (.cells #[.int .u64 7] 53)) (w.alloc (.cells #[.int .u64 7] 53)).heap.size seven (.agg (cellsT 1 0 (.slice (some ⟨w.heap.size, 0, none⟩) 1 1) (.slice none 0 0) (.slice none 0 0))) := by
  unfold seven TrV
  refine ⟨_, _, none, 0, rfl, ⟨⟨by decide, by decide⟩, ⟨by decide, by decide⟩, by simp, by simp, by simp, by simp, by simp⟩, ⟨_, 1, rfl, by simp, by omega, fun _ => ⟨w.heap.size, 0, rfl, by simp, fun j hj => ?_⟩⟩, ⟨none, 0, rfl, by simp, by omega, fun h => by simp at h⟩, by simp, by omega, fun h => by simp at h⟩
  obtain rfl : j = 0 := by simp at hj; omega
  have hb : (w.alloc (.cells #[.int .u64 7] 53)).heap[w.heap.size]? = some (.cells #[.int .u64 7] 53 (0, 0)) := blk_alloc_new _ _
  unfold World.cell?
  dsimp only
  rw [hb]
  rfl

set_option maxRecDepth 100000 in
set_option maxHeartbeats 2000000 in
theorem known10_any (w : World) (L : Laid w) : Calls Tryd.prog 11 #[] w fun e w' => e = .returned (.bool true) ∧ Below w.heap.size w w' := by
  obtain ⟨W1, hW1⟩ : ∃ W1, W1 = (w.alloc (.cells #[.int .u64 7] 53)).alloc (.cells (cellsT 1 0 (.slice (some ⟨w.heap.size, 0, none⟩) 1 1) (.slice none 0 0) (.slice none 0 0)) 37) := ⟨_, rfl⟩
  obtain ⟨-, hb2, hB1, hs1⟩ := two_new10 w _ _ _ _ W1 hW1
  have hV : TrV W1 W1.heap.size seven (.agg (cellsT 1 0 (.slice (some ⟨w.heap.size, 0, none⟩) 1 1) (.slice none 0 0) (.slice none 0 0))) := by
    rw [hW1]
    exact (seven10_V w).on ((Below.refl _ _).alloc (Nat.le_refl _) _)
  have HV := Lib.hid hV
  have HT1 : Hid (TBox W1 (w.heap.size + 1) 1 0 (.slice (some ⟨w.heap.size, 0, none⟩) 1 1) (.slice none 0 0) (.slice none 0 0)) := Lib.hid hb2
  have HB1 := Lib.hid hB1
  have HAsk := Lib.hid (fun X (hX : Below W1.heap.size W1 X) => ask_any seven _ X (.slice none 0 0) [] 0 (hV.on hX) seven_fine.1 (NumS.nil _ _ _) (by intro k hk; cases hk) ⟨by decide, by decide⟩)
  rw [seven_ask] at HAsk
  have HBu := Lib.hid (fun X (hX : Below W1.heap.size W1 X) => rbuild_any seven _ 9 X (hV.on hX))
  rw [seven_build] at HBu
  have HDe := Lib.hid (fun X (hX : Below W1.heap.size W1 X) v (hv : ArV X X.heap.size v [[4294967296, 7]]) => decode_any v _ X (L.on (hB1.trans (hX.mono (by omega)))) hv (by simp) (by intro l hl x hx; simp at hl; subst hl; simp at hx; omega))
  rw [seven_decode] at HDe
  have HSa := Lib.hid (fun X (hX : Below W1.heap.size W1 X) u (hu : TrV X X.heap.size seven u) => rsame8_any seven seven _ u X (hV.on hX) hu)
  rw [seven_same] at HSa
  have HCo := Lib.hid (fun X (hX : Below W1.heap.size W1 X) => cost_leaf 1 0 [7] [] _ X (hV.on hX))
  rw [show costT (.mk 1 0 [7] [] []) = 2 from seven_cost] at HCo
  have HPa := Lib.hid (fun X (hX : Below W1.heap.size W1 X) => paths10_any seven _ 9 X (hV.on hX) seven_fine.1 seven_fine.2)
  clear hV hb2 hB1 hs1
  obtain ⟨d0, d1, d2, d3, d4⟩ := HT1.out.cells
  unfold cellsT at hW1 HAsk HBu HSa HCo HPa
  go_enter Tryd.func11, Tryd.ntmps11
  go_upto_region 2 with fail
  rw [← hW1]
  clear hW1
  go_wp2_with fail
  refine (HAsk.out W1 (Below.refl _ _)).mono ?_
  rintro e w2 ⟨rfl, hB2⟩
  unfold cellsV
  dsimp only
  obtain ⟨w3, hw3⟩ : ∃ w3, w3 = w2.alloc (.cells #[.int .i64 1, .int .i64 0, .int .i64 0, .int .i64 0, .int .u64 7] 55) := ⟨_, rfl⟩
  have HV3 : Hid (VBox w3 w2.heap.size ⟨1, 0, 0, 0, 7⟩) := Lib.hid (by rw [hw3]; exact VBox.new w2 ⟨1, 0, 0, 0, 7⟩)
  have HB3 : Hid (Below W1.heap.size W1 w3) := Lib.hid (by rw [hw3]; exact hB2.alloc hB2.size _)
  clear hB2 d0 d1 d2 d3 d4
  obtain ⟨d0, d1, d2, d3, d4⟩ := (HT1.out.on HB3.out).cells
  go_upto_region 3 with fail
  rw [← hw3]
  clear hw3
  go_wp2_with fail
  refine (HBu.out w3 HB3.out).mono ?_
  rintro e w4 ⟨A, n, c, rfl, hA4, hB4⟩
  have HV4 := Lib.hid (HV3.out.on hB4)
  have HB4 := Lib.hid (bseq8 HB3.out hB4)
  have HDe4 := Lib.hid (HDe.out w4 HB4.out _ hA4)
  clear hA4 hB4 d0 d1 d2 d3 d4
  go_wp2_with fail
  refine HDe4.out.mono ?_
  unfold TrER
  rintro e w5 ⟨u, rfl, hP5, hB5⟩
  obtain ⟨k5, z5, A1, n1, c1, A2, n2, c2, A3, n3, c3, rfl⟩ := hP5.parts
  unfold cellsT
  obtain ⟨w6, hw6⟩ : ∃ w6, w6 = w5.alloc (.cells #[.int .i64 k5, .int .i64 z5, .slice A1 n1 c1, .slice A2 n2 c2, .slice A3 n3 c3] 37) := ⟨_, rfl⟩
  have hB6 : Below w5.heap.size w5 w6 := by rw [hw6]; exact (Below.refl _ _).alloc (Nat.le_refl _) _
  have HT6 : Hid (TBox w6 w5.heap.size k5 z5 (.slice A1 n1 c1) (.slice A2 n2 c2) (.slice A3 n3 c3)) := Lib.hid (by rw [hw6]; exact TBox.new _ _ _ _ _ _)
  have HU6 := Lib.hid ((TrP.trV (fun b hb => hb.2) _ _ hP5).on hB6)
  have HV6 := Lib.hid (HV4.out.on (bseq8 hB5 hB6))
  have HB6 := Lib.hid (bseq8 HB4.out (bseq8 hB5 hB6))
  have HSa6 := Lib.hid (HSa.out w6 HB6.out _ HU6.out)
  unfold cellsT at HSa6
  clear hP5 hB5 hB6
  obtain ⟨d0, d1, d2, d3, d4⟩ := (HT1.out.on HB6.out).cells
  obtain ⟨e0, e1, e2, e3, e4⟩ := HT6.out.cells
  obtain ⟨-, -, -, -, x4⟩ := HV6.out.cells
  go_upto_region 5 with fail
  rw [← hw6]
  clear hw6
  go_wp2_with fail
  refine HSa6.out.mono ?_
  rintro e w7 ⟨rfl, hB7⟩
  have HB7 := Lib.hid (bseq8 HB6.out hB7)
  clear hB7 d0 d1 d2 d3 d4 e0 e1 e2 e3 e4 x4
  obtain ⟨d0, d1, d2, d3, d4⟩ := (HT1.out.on HB7.out).cells
  go_wp2_with fail
  refine (HCo.out w7 HB7.out).mono ?_
  rintro e w8 ⟨rfl, hB8⟩
  have HB8 := Lib.hid (bseq8 HB7.out hB8)
  clear hB8 d0 d1 d2 d3 d4
  obtain ⟨d0, d1, d2, d3, d4⟩ := (HT1.out.on HB8.out).cells
  go_wp2_with fail
  refine (HPa.out w8 HB8.out).mono ?_
  rintro e w9 ⟨u, rfl, hr9, hB9⟩
  obtain ⟨A9, c9, rfl⟩ := hr9.form
  rw [seven_paths]
  have HB9 := Lib.hid (HB1.out.trans ((bseq8 HB8.out hB9).mono HB1.out.size))
  clear hr9 hB9
  go_wp2_with fail
  go_ret
  exact ⟨rfl, HB9.out⟩

end Go.Proofs.YtdfldfnjjjcleaaDoor
