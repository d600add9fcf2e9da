/-
  Layer 9: what the laws share: the chapter's example (known).
-/
import Derived.Test.YtmcnnihhnapjpaaDoorZRdPath
import Derived.Test.YtmcnnihhnapjpaaDoorZRdPlain
import Derived.Test.YtmcnnihhnapjpaaDoorZBuRefH

namespace Go.Proofs.YtmcnnihhnapjpaaDoor
open Go.RowKit Go.Deep

theorem seven_reads : (ofV (buildT (.mk 1 0 [7] [] []) 9).1 [] 0 10).2 = 0 ∧ (ofV (buildT (.mk 1 0 [7] [] []) 9).1 [] 0 10).1.word = 7 ∧ (ofV (buildT (.mk 1 0 [7] [] []) 9).1 [] 0 10).1.kind = 1 ∧ (ofV (buildT (.mk 1 0 [7] [] []) 9).1 [] 0 1).2 = 22 := by decide
theorem seven_small : (buildT (.mk 1 0 [7] [] []) 9).1.length = 1 ∧ (∀ s ∈ (buildT (.mk 1 0 [7] [] []) 9).1, ∀ x ∈ s, 0 ≤ x ∧ x ≤ 18446744073709551615) := by decide
theorem seven9_V (w : World) : TrV (w.alloc (.cells #[.int .u64 7] 30)) (w.alloc (.cells #[.int .u64 7] 30)).heap.size (.mk 1 0 [7] [] []) (.agg (cellsT 1 0 (.slice (some ⟨w.heap.size, 0, none⟩) 1 1) (.slice none 0 0) (.slice none 0 0))) := by
  unfold TrV
  refine ⟨_, _, none, 0, rfl, ⟨⟨by decide, by decide⟩, ⟨by decide, by decide⟩, by simp, by simp, by simp, by simp, by simp⟩, ⟨_, 1, rfl, by simp, by omega, fun _ => ⟨w.heap.size, 0, rfl, by simp, fun j hj => ?_⟩⟩, ⟨none, 0, rfl, by simp, by omega, fun h => by simp at h⟩, by simp, by omega, fun h => by simp at h⟩
  obtain rfl : j = 0 := by simp at hj; omega
  have := cell_one_new w (.int .u64 7) 30 0 (.int .u64 7) rfl
  rwa [Addr.add_lit] at this

set_option maxRecDepth 100000 in
set_option maxHeartbeats 1000000 in
theorem known9_any (w : World) (L : Laid w) : Calls Tryd.prog 8 #[] w fun e w' => e = .returned (.bool true) ∧ Below w.heap.size w w' := by
  obtain ⟨r1, r2, r3, r4⟩ := seven_reads
  obtain ⟨s1, s2⟩ := seven_small
  have HL := Lib.hid L
  obtain ⟨W1, hW1⟩ : ∃ W1, W1 = w.alloc (.cells #[.int .u64 7] 30) := ⟨_, rfl⟩
  have hB1 : Below w.heap.size w W1 := by rw [hW1]; exact (Below.refl _ _).alloc (Nat.le_refl _) _
  have h7 := seven9_V w
  rw [← hW1] at h7
  have HA := Lib.hid (rbuild_any (.mk 1 0 [7] [] []) _ 9 W1 h7)
  have HB1 := Lib.hid hB1
  generalize buildT (.mk 1 0 [7] [] []) 9 = bt at *
  obtain ⟨ls, be⟩ := bt
  dsimp only at r1 r2 r3 r4 s1 s2
  have HO := Lib.hid (fun (v : Value) (X : World) (c : Int) (hc : In64 c) (hX : Below w.heap.size w X) (h : ArV X X.heap.size v ls) => of_any v ls X (.slice none 0 0) [] 0 c (L.on hX) h (by rw [s1]; decide) s2 ⟨none, 0, rfl, by simp, by omega, fun h => by simp at h⟩ (fun x hx => by simp at hx) ⟨by decide, by decide⟩ hc)
  generalize hT1 : ofV ls [] 0 10 = T1 at *
  generalize hT2 : ofV ls [] 0 1 = T2 at *
  unfold cellsT at HA
  obtain ⟨⟨v1, v2, v3, v4, v5⟩, E1⟩ := T1
  obtain ⟨⟨u1, u2, u3, u4, u5⟩, E2⟩ := T2
  dsimp only at r1 r2 r3 r4
  subst r1 r2 r3 r4
  have HT1 := Lib.hid hT1
  have HT2 := Lib.hid hT2
  clear h7 hB1 s1 s2 L hT1 hT2
  go_enter Tryd.func8, Tryd.ntmps8
  go_wp2_with fail
  rw [← hW1]
  clear hW1
  refine HA.out.mono ?_
  rintro e w2 ⟨A, n, c, rfl, hA, hB2⟩
  have HB2 := Lib.hid (bseq' HB1.out hB2)
  have HA2 := Lib.hid hA
  clear hA hB2
  have HO1 := HO.out _ w2 10 ⟨by decide, by decide⟩ HB2.out HA2.out
  rw [HT1.out] at HO1
  go_wp2_with fail
  refine HO1.mono ?_
  rintro e w3 ⟨rfl, hB3⟩
  have HB3 := Lib.hid (HB2.out.trans (hB3.mono HB2.out.size))
  have HA3 := Lib.hid (HA2.out.on hB3)
  clear hB3 HO1
  unfold cellsV
  dsimp only
  have hB4 : Below w3.heap.size w3 (w3.alloc (.cells (cellsV ⟨1, v2, v3, v4, 7⟩) 32)) := (Below.refl _ _).alloc (Nat.le_refl _) _
  have HV4 := Lib.hid (VBox.new w3 ⟨1, v2, v3, v4, 7⟩)
  have HB4 := Lib.hid (HB3.out.trans (hB4.mono HB3.out.size))
  have HA4 := Lib.hid (HA3.out.on hB4)
  obtain ⟨W4, hW4⟩ : ∃ W4, W4 = w3.alloc (.cells (cellsV ⟨1, v2, v3, v4, 7⟩) 32) := ⟨_, rfl⟩
  rw [← hW4] at HV4 HB4 HA4
  unfold cellsV at hW4
  dsimp only at hW4
  clear hB4
  have HO2 := HO.out _ W4 1 ⟨by decide, by decide⟩ HB4.out HA4.out
  rw [HT2.out] at HO2
  go_upto_region 3 with fail
  rw [← hW4]
  clear hW4
  go_wp2_with fail
  refine HO2.mono ?_
  rintro e w5 ⟨rfl, hB5⟩
  unfold cellsV
  dsimp only
  have HV5 := Lib.hid (HV4.out.on hB5)
  have HB5 := Lib.hid (HB4.out.trans (hB5.mono HB4.out.size))
  have HB6 : Hid (∀ cs t, Below w.heap.size w (w5.alloc (.cells cs t))) := Lib.hid (fun cs t => HB5.out.alloc HB5.out.size _)
  obtain ⟨y0, y1, y2, y3, y4⟩ := HV5.out.cells
  obtain ⟨z0, z1, z2, z3, z4⟩ := (HV5.out.on ((Below.refl _ _).alloc (Nat.le_refl _) (.cells #[.int .i64 u1, .int .i64 u2, .int .i64 u3, .int .i64 u4, .int .u64 u5] 32))).cells
  dsimp only at y0 y1 y2 y3 y4 z0 z1 z2 z3 z4
  clear hB5 HO2
  go_wp2_with fail
  go_ret
  exact ⟨rfl, HB6.out _ _⟩

end Go.Proofs.YtmcnnihhnapjpaaDoor
