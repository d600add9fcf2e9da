/-
  Layer 6: the law's known, decodes, given PtrOK.
-/
import Derived.Test.YtknmbohokmeidaaDoorPtrBox
namespace Go.Proofs.YtknmbohokmeidaaDoor
open Go.RowKit Go.Deep

set_option maxRecDepth 100000 in
set_option maxHeartbeats 2000000 in
theorem known_ptr (T : PtrOK) (w : World) (L : Laid w) : Calls Tryd.prog 10 #[] w fun e w' => e = .returned (.bool true) ∧ Below w.heap.size w w' := by
  have HL := Lib.hid L
  clear L
  have HT := Lib.hid T
  have E1 : Hid (decP 281479271677948 = ⟨1, -1, 0, 1, 0, 0, 0, false⟩ ∧ decE 281479271677948 = 0) := Lib.hid ⟨eqP_iff.1 (by decide), by decide⟩
  have E2 : Hid (decP 3 = Pt.zero ∧ decE 3 = 23) := Lib.hid ⟨eqP_iff.1 (by decide), by decide⟩
  have E3 : Hid (encW ⟨1, -1, 0, 1, 0, 0, 0, false⟩ = 281479271677948 ∧ encE ⟨1, -1, 0, 1, 0, 0, 0, false⟩ = 0) := Lib.hid (by decide)
  have hne := fun w => run_eql_P w ⟨1, -1, 0, 1, 0, 0, 0, false⟩ ⟨1, -1, 0, 1, 0, 0, 0, false⟩
  rw [show eqP ⟨1, -1, 0, 1, 0, 0, 0, false⟩ ⟨1, -1, 0, 1, 0, 0, 0, false⟩ = true by decide] at hne
  have hgd := fun w op x y xs ys => run_eqGuard_agg (P := Tryd.prog) w op 24 x y xs ys (by kernel_rfl)
  unfold cellsP at hne
  dsimp only at hne
  clear T
  go_enter Tryd.func10, Tryd.ntmps10
  go_wp2_with fail
  refine (HT.out.dec 281479271677948 w (by decide) (by decide) (by first | exact HL.out | exact HL.out.on HC6.out | exact HL.out.on HC5.out | exact HL.out.on HC4.out | exact HL.out.on HC3.out | exact HL.out.on HC2.out | exact HL.out.on HC1.out | exact HL.out.on (HC1 _).out | exact HL.out.on HC0.out | exact HL.out.on hC5 | exact HL.out.on hC4 | exact HL.out.on hC3 | exact HL.out.on hC2 | exact HL.out.on hB1)).mono ?_
  rintro e w1 ⟨rfl, hB1⟩
  rw [E1.out.1, E1.out.2]
  have HP1 := Lib.hid (PBox.new w1 ⟨1, -1, 0, 1, 0, 0, 0, false⟩)
  have hC1 : Below w.heap.size w (w1.alloc (.cells (cellsP ⟨1, -1, 0, 1, 0, 0, 0, false⟩) 24)) := hB1.alloc hB1.size _
  have HC1 := Lib.hid hC1
  clear hC1
  unfold cellsP
  dsimp only
  go_wp2_with fail
  refine (HT.out.dec 3 _ (by decide) (by decide) (by first | exact HL.out | exact HL.out.on HC6.out | exact HL.out.on HC5.out | exact HL.out.on HC4.out | exact HL.out.on HC3.out | exact HL.out.on HC2.out | exact HL.out.on HC1.out | exact HL.out.on (HC1 _).out | exact HL.out.on HC0.out | exact HL.out.on hC5 | exact HL.out.on hC4 | exact HL.out.on hC3 | exact HL.out.on hC2 | exact HL.out.on hB1)).mono ?_
  rintro e w2 ⟨rfl, hB2⟩
  rw [E2.out.1, E2.out.2]
  have HP2 := Lib.hid ((HP1.out.on hB2).on ((Below.refl _ _).alloc (Nat.le_refl _) (.cells (cellsP Pt.zero) 24)))
  have hC2 : Below w.heap.size w (w2.alloc (.cells (cellsP Pt.zero) 24)) := bseq' (bseq' HC1.out hB2) ((Below.refl _ _).alloc (Nat.le_refl _) _)
  have HC2 := Lib.hid hC2
  obtain ⟨z0, z1, z2, z3, z4, z5, z6, z7⟩ := HP2.out.cells
  unfold cellsP Pt.zero at z0 z1 z2 z3 z4 z5 z6 z7
  clear hC2
  unfold cellsP Pt.zero
  dsimp only at z0 z1 z2 z3 z4 z5 z6 z7 ⊢
  go_wp2_with fail
  refine (HT.out.enc ⟨1, -1, 0, 1, 0, 0, 0, false⟩ _ (by unfold InP I64; decide) (by first | exact HL.out | exact HL.out.on HC6.out | exact HL.out.on HC5.out | exact HL.out.on HC4.out | exact HL.out.on HC3.out | exact HL.out.on HC2.out | exact HL.out.on HC1.out | exact HL.out.on (HC1 _).out | exact HL.out.on HC0.out | exact HL.out.on hC5 | exact HL.out.on hC4 | exact HL.out.on hC3 | exact HL.out.on hC2 | exact HL.out.on hB1)).mono ?_
  rintro e w3 ⟨rfl, hB3⟩
  rw [E3.out.1, E3.out.2]
  have HC3 := Lib.hid (bseq' HC2.out hB3)
  clear z0 z1 z2 z3 z4 z5 z6 z7
  obtain ⟨z0, z1, z2, z3, z4, z5, z6, z7⟩ := (HP2.out.on hB3).cells
  dsimp only at z0 z1 z2 z3 z4 z5 z6 z7
  go_wp2_with fail
  go_ret
  exact ⟨rfl, HC3.out⟩

theorem decE_bd (n : Int) : decE n = 0 ∨ decE n = 23 := by unfold decE; split <;> simp
/-- what Decode tells has a word -/
theorem dec_okp {n : Int} (h0 : 0 ≤ n) (h1 : n ≤ 18446744073709551615) : OkP (decP n) := dec_ok h0 (by omega)

set_option maxRecDepth 100000 in
set_option maxHeartbeats 4000000 in
theorem decodes_any (T : PtrOK) (n : Int) (w : World) (h0 : 0 ≤ n) (h1 : n ≤ 18446744073709551615) (L : Laid w) : Calls Tryd.prog 11 #[.int .u64 n] w fun e w' => e = .returned (.bool true) ∧ Below w.heap.size w w' := by
  have HL := Lib.hid L
  clear L
  have HT := Lib.hid T
  have HOk := Lib.hid (dec_okp h0 h1)
  have H0 := Lib.hid h0
  have H1 := Lib.hid h1
  have HD : ∀ w, Laid w → Calls Tryd.prog 13 #[.int .u64 n] w fun e w' => e = .returned (.tuple #[.agg (cellsP (decP n)), .int .u16 (decE n)]) ∧ Below w.heap.size w w' := fun w L => T.dec n w h0 h1 L
  have HR : ∀ w, Calls Tryd.prog 16 #[.int .u64 n] w fun e w' => e = .returned (.tuple #[.agg (cellsP (decP n)), .int .i64 (decE n)]) ∧ Below w.heap.size w w' := fun w => rdec_any n w h0 h1
  obtain ⟨q, hq⟩ : ∃ q, decP n = q := ⟨_, rfl⟩
  rw [hq] at HOk HD HR
  have HW : ∀ w, Laid w → Calls Tryd.prog 15 #[.agg (cellsP q)] w fun e w' => e = .returned (.tuple #[.int .i64 (wordN q), .int .u16 (wordE q)]) ∧ Below w.heap.size w w' := fun w L => T.words q w HOk.out L
  have HV : ∀ w, Calls Tryd.prog 17 #[.agg (cellsP q)] w fun e w' => e = .returned (.tuple #[.int .i64 (wordN q), .int .i64 (wordE q)]) ∧ Below w.heap.size w w' := fun w => rwords_any q HOk.out w
  have heb := decE_bd n
  have hwb := wordE_bd q
  generalize decE n = de at *
  generalize wordE q = we at *
  generalize wordN q = wn at *
  have HDD := Lib.hid HD
  have HRR := Lib.hid HR
  have HWW := Lib.hid HW
  have HVV := Lib.hid HV
  have hne := fun w => run_eql_P w q q
  rw [show eqP q q = true from eqP_iff.2 rfl] at hne
  have hgd := fun w op x y xs ys => run_eqGuard_agg (P := Tryd.prog) w op 24 x y xs ys (by kernel_rfl)
  unfold cellsP at hne
  clear T h0 h1 hq HD HR HW HV HT
  have d1 : (wn == wn) = true := by simp
  rcases heb with rfl | rfl <;> rcases hwb with rfl | rfl
  all_goals
    go_enter Tryd.func11, Tryd.ntmps11
    go_wp2_with fail
    refine (HDD.out w (by first | exact HL.out | exact HL.out.on HC6.out | exact HL.out.on HC5.out | exact HL.out.on HC4.out | exact HL.out.on HC3.out | exact HL.out.on HC2.out | exact HL.out.on HC1.out | exact HL.out.on (HC1 _).out | exact HL.out.on HC0.out | exact HL.out.on hC5 | exact HL.out.on hC4 | exact HL.out.on hC3 | exact HL.out.on hC2 | exact HL.out.on hB1)).mono ?_
    rintro e w1 ⟨rfl, hB1⟩
    have HP1 := Lib.hid (PBox.new w1 q)
    have HC1 : Hid (Below w.heap.size w (w1.alloc (.cells (cellsP q) 24))) := Lib.hid (hB1.alloc hB1.size _)
    unfold cellsP
    go_wp2_with fail
    refine (HRR.out _).mono ?_
    rintro e w2 ⟨rfl, hB2⟩
    have HP2 := Lib.hid (PBox.new w2 q)
    have HQ2 := Lib.hid ((HP1.out.on hB2).on ((Below.refl _ _).alloc (Nat.le_refl _) (.cells (cellsP q) 24)))
    have HC2 : Hid (Below w.heap.size w (w2.alloc (.cells (cellsP q) 24))) := Lib.hid (bseq' (bseq' HC1.out hB2) ((Below.refl _ _).alloc (Nat.le_refl _) _))
    unfold cellsP
    go_wp2_with fail
    refine (HWW.out _ (by first | exact HL.out | exact HL.out.on HC6.out | exact HL.out.on HC5.out | exact HL.out.on HC4.out | exact HL.out.on HC3.out | exact HL.out.on HC2.out | exact HL.out.on HC1.out | exact HL.out.on (HC1 _).out | exact HL.out.on HC0.out | exact HL.out.on hC5 | exact HL.out.on hC4 | exact HL.out.on hC3 | exact HL.out.on hC2 | exact HL.out.on hB1)).mono ?_
    rintro e w3 ⟨rfl, hB3⟩
    have HP3 := Lib.hid (HP2.out.on hB3)
    have HQ3 := Lib.hid (HQ2.out.on hB3)
    have HC3 := Lib.hid (bseq' HC2.out hB3)
    obtain ⟨z0, z1, z2, z3, z4, z5, z6, z7⟩ := HP3.out.cells
    go_wp2_with fail
    refine (HVV.out _).mono ?_
    rintro e w4 ⟨rfl, hB4⟩
    have HC4 := Lib.hid (bseq' HC3.out hB4)
    clear z0 z1 z2 z3 z4 z5 z6 z7
    obtain ⟨z0, z1, z2, z3, z4, z5, z6, z7⟩ := (HP3.out.on hB4).cells
    obtain ⟨y0, y1, y2, y3, y4, y5, y6, y7⟩ := (HQ3.out.on hB4).cells
    go_wp2_with fail
    go_ret
    exact ⟨rfl, HC4.out⟩

end Go.Proofs.YtknmbohokmeidaaDoor
