/-
  Layer 6: the walks of PtrBack, PtrKinds, PtrOffs.
-/
import Derived.Test.YtknmbohokmeidaaDoorPtrLawsA
namespace Go.Proofs.YtknmbohokmeidaaDoor
open Go.RowKit Go.Deep

theorem zero_eqP : eqP Pt.zero Pt.zero = true := by decide
set_option maxRecDepth 100000 in
set_option maxHeartbeats 4000000 in
theorem pback_walk (T : PtrOK) (n m : Int) (w : World) (n0 : 0 ≤ n) (n1 : n ≤ 18446744073709551615) (m0 : 0 ≤ m) (m1 : m ≤ 18446744073709551615) (L : Laid w) : Calls Tryd.prog 4 #[.int .u64 n, .int .u64 m] w fun e w' => e = .returned (.bool true) ∧ Below w.heap.size w w' := by
  have HL := Lib.hid L
  clear L
  have HT := Lib.hid T
  have HD : ∀ w, Laid w → Calls Tryd.prog 13 #[.int .u64 n] w fun e w' => e = .returned (.tuple #[.agg (cellsP (decP n)), .int .u16 (decE n)]) ∧ Below w.heap.size w w' := fun w L => T.dec n w n0 n1 L
  have HR : ∀ w, Laid w → Calls Tryd.prog 13 #[.int .u64 m] w fun e w' => e = .returned (.tuple #[.agg (cellsP (decP m)), .int .u16 (decE m)]) ∧ Below w.heap.size w w' := fun w L => T.dec m w m0 m1 L
  have HE : ∀ w, Laid w → Calls Tryd.prog 14 #[.agg (cellsP (decP n))] w fun e w' => e = .returned (.tuple #[.int .u64 (encW (decP n)), .int .u16 (encE (decP n))]) ∧ Below w.heap.size w w' := fun w L => T.enc (decP n) w (okp_in (dec_okp n0 n1)) L
  have hgd := fun w op x y xs ys => run_eqGuard_agg (P := Tryd.prog) w op 24 x y xs ys (by kernel_rfl)
  rcases decE_bd n with he | he
  · have hw : encW (decP n) = n ∧ encE (decP n) = 0 := by
      have h1 := dec_enc n0 (by omega) he
      unfold encW encE
      rw [h1]
      exact ⟨raw_dec n0 (by omega) he, rfl⟩
    have hq : decE m = 0 → eqP (decP n) (decP m) = (n == m) := fun hm => by
      have := dec_inj n0 (by omega) m0 (by omega) he hm
      by_cases e : n = m
      · rw [eqP_iff.2 (this.2 e), e]; simp
      · rw [eqP_no.2 (fun h => e (this.1 h))]; simp [e]
    rw [he] at HD
    rw [hw.1, hw.2] at HE
    rcases decE_bd m with hm | hm
    · have hne := fun w => run_eql_P w (decP n) (decP m)
      rw [hq hm] at hne
      rw [hm] at HR
      obtain ⟨p, hp⟩ : ∃ p, decP n = p := ⟨_, rfl⟩
      obtain ⟨q, hq'⟩ : ∃ p, decP m = p := ⟨_, rfl⟩
      rw [hp] at HD HE hne
      rw [hq'] at HR hne
      have HDD := Lib.hid HD
      have HRR := Lib.hid HR
      have HEE := Lib.hid HE
      unfold cellsP at hne
      have d1 : (n == n) = true := by simp
      have d2 : ((n == m) == (n == m)) = true := by simp
      clear T HD HR HE hw hq hp hq' he hm
      go_enter Tryd.func4, Tryd.ntmps4
      go_wp2_with fail
      refine (HDD.out _ (by first | exact HL.out | exact HL.out.on HC6.out | exact HL.out.on HC5.out | exact HL.out.on HC4.out | exact HL.out.on HC3.out | exact HL.out.on HC2.out | exact HL.out.on HC1.out | exact HL.out.on (HC1 _).out | exact HL.out.on HC0.out | exact HL.out.on hC5 | exact HL.out.on hC4 | exact HL.out.on hC3 | exact HL.out.on hC2 | exact HL.out.on hB1)).mono ?_
      rintro e w1 ⟨rfl, hB1⟩
      have HP1 := Lib.hid (PBox.new w1 p)
      have HC1 : Hid (Below w.heap.size w (w1.alloc (.cells (cellsP p) 24))) := Lib.hid (hB1.alloc hB1.size _)
      unfold cellsP
      go_wp2_with fail
      refine (HRR.out _ (by first | exact HL.out | exact HL.out.on HC6.out | exact HL.out.on HC5.out | exact HL.out.on HC4.out | exact HL.out.on HC3.out | exact HL.out.on HC2.out | exact HL.out.on HC1.out | exact HL.out.on (HC1 _).out | exact HL.out.on HC0.out | exact HL.out.on hC5 | exact HL.out.on hC4 | exact HL.out.on hC3 | exact HL.out.on hC2 | exact HL.out.on hB1)).mono ?_
      rintro e w2 ⟨rfl, hB2⟩
      have HQ2 := Lib.hid (PBox.new w2 q)
      have HP2 := Lib.hid ((HP1.out.on hB2).on ((Below.refl _ _).alloc (Nat.le_refl _) (.cells (cellsP q) 24)))
      have HC2 : Hid (Below w.heap.size w (w2.alloc (.cells (cellsP q) 24))) := Lib.hid (bseq' (bseq' HC1.out hB2) ((Below.refl _ _).alloc (Nat.le_refl _) _))
      obtain ⟨z0, z1, z2, z3, z4, z5, z6, z7⟩ := HP2.out.cells
      unfold cellsP at z0 z1 z2 z3 z4 z5 z6 z7
      unfold cellsP
      go_wp2_with fail
      refine (HEE.out _ (by first | exact HL.out | exact HL.out.on HC6.out | exact HL.out.on HC5.out | exact HL.out.on HC4.out | exact HL.out.on HC3.out | exact HL.out.on HC2.out | exact HL.out.on HC1.out | exact HL.out.on (HC1 _).out | exact HL.out.on HC0.out | exact HL.out.on hC5 | exact HL.out.on hC4 | exact HL.out.on hC3 | exact HL.out.on hC2 | exact HL.out.on hB1)).mono ?_
      rintro e w3 ⟨rfl, hB3⟩
      have HP3 := Lib.hid (HP2.out.on hB3)
      have HQ3 := Lib.hid (HQ2.out.on hB3)
      have HC3 := Lib.hid (bseq' HC2.out hB3)
      clear z0 z1 z2 z3 z4 z5 z6 z7
      go_wp2_with fail
      refine (known_ptr HT.out _ (by first | exact HL.out | exact HL.out.on HC6.out | exact HL.out.on HC5.out | exact HL.out.on HC4.out | exact HL.out.on HC3.out | exact HL.out.on HC2.out | exact HL.out.on HC1.out | exact HL.out.on (HC1 _).out | exact HL.out.on HC0.out | exact HL.out.on hC5 | exact HL.out.on hC4 | exact HL.out.on hC3 | exact HL.out.on hC2 | exact HL.out.on hB1)).mono ?_
      rintro e w4 ⟨rfl, hB4⟩
      have HC4 := Lib.hid (bseq' HC3.out hB4)
      obtain ⟨z0, z1, z2, z3, z4, z5, z6, z7⟩ := (HP3.out.on hB4).cells
      obtain ⟨y0, y1, y2, y3, y4, y5, y6, y7⟩ := (HQ3.out.on hB4).cells
      go_wp2_with fail
      go_ret
      exact ⟨rfl, HC4.out⟩
    · rw [hm] at HR
      obtain ⟨p, hp⟩ : ∃ p, decP n = p := ⟨_, rfl⟩
      obtain ⟨q, hq'⟩ : ∃ p, decP m = p := ⟨_, rfl⟩
      rw [hp] at HD HE
      rw [hq'] at HR
      have HDD := Lib.hid HD
      have HRR := Lib.hid HR
      have HEE := Lib.hid HE
      have d1 : (n == n) = true := by simp
      clear T HD HR HE hw hq hp hq' he hm
      go_enter Tryd.func4, Tryd.ntmps4
      go_wp2_with fail
      refine (HDD.out _ (by first | exact HL.out | exact HL.out.on HC6.out | exact HL.out.on HC5.out | exact HL.out.on HC4.out | exact HL.out.on HC3.out | exact HL.out.on HC2.out | exact HL.out.on HC1.out | exact HL.out.on (HC1 _).out | exact HL.out.on HC0.out | exact HL.out.on hC5 | exact HL.out.on hC4 | exact HL.out.on hC3 | exact HL.out.on hC2 | exact HL.out.on hB1)).mono ?_
      rintro e w1 ⟨rfl, hB1⟩
      have HP1 := Lib.hid (PBox.new w1 p)
      have HC1 : Hid (Below w.heap.size w (w1.alloc (.cells (cellsP p) 24))) := Lib.hid (hB1.alloc hB1.size _)
      unfold cellsP
      go_wp2_with fail
      refine (HRR.out _ (by first | exact HL.out | exact HL.out.on HC6.out | exact HL.out.on HC5.out | exact HL.out.on HC4.out | exact HL.out.on HC3.out | exact HL.out.on HC2.out | exact HL.out.on HC1.out | exact HL.out.on (HC1 _).out | exact HL.out.on HC0.out | exact HL.out.on hC5 | exact HL.out.on hC4 | exact HL.out.on hC3 | exact HL.out.on hC2 | exact HL.out.on hB1)).mono ?_
      rintro e w2 ⟨rfl, hB2⟩
      have HP2 := Lib.hid ((HP1.out.on hB2).on ((Below.refl _ _).alloc (Nat.le_refl _) (.cells (cellsP q) 24)))
      have HC2 : Hid (Below w.heap.size w (w2.alloc (.cells (cellsP q) 24))) := Lib.hid (bseq' (bseq' HC1.out hB2) ((Below.refl _ _).alloc (Nat.le_refl _) _))
      obtain ⟨z0, z1, z2, z3, z4, z5, z6, z7⟩ := HP2.out.cells
      unfold cellsP at z0 z1 z2 z3 z4 z5 z6 z7
      unfold cellsP
      go_wp2_with fail
      refine (HEE.out _ (by first | exact HL.out | exact HL.out.on HC6.out | exact HL.out.on HC5.out | exact HL.out.on HC4.out | exact HL.out.on HC3.out | exact HL.out.on HC2.out | exact HL.out.on HC1.out | exact HL.out.on (HC1 _).out | exact HL.out.on HC0.out | exact HL.out.on hC5 | exact HL.out.on hC4 | exact HL.out.on hC3 | exact HL.out.on hC2 | exact HL.out.on hB1)).mono ?_
      rintro e w3 ⟨rfl, hB3⟩
      have HC3 := Lib.hid (bseq' HC2.out hB3)
      clear z0 z1 z2 z3 z4 z5 z6 z7
      go_wp2_with fail
      refine (known_ptr HT.out _ (by first | exact HL.out | exact HL.out.on HC6.out | exact HL.out.on HC5.out | exact HL.out.on HC4.out | exact HL.out.on HC3.out | exact HL.out.on HC2.out | exact HL.out.on HC1.out | exact HL.out.on (HC1 _).out | exact HL.out.on HC0.out | exact HL.out.on hC5 | exact HL.out.on hC4 | exact HL.out.on hC3 | exact HL.out.on hC2 | exact HL.out.on hB1)).mono ?_
      rintro e w4 ⟨rfl, hB4⟩
      have HC4 := Lib.hid (bseq' HC3.out hB4)
      go_wp2_with fail
      go_ret
      exact ⟨rfl, HC4.out⟩
  · obtain ⟨hz, h3⟩ := dec_err (n := n) (by omega)
    have hne := fun w => run_eql_P w Pt.zero Pt.zero
    rw [zero_eqP] at hne
    rw [he, hz] at HD
    rw [hz] at HE
    generalize encW Pt.zero = x at *
    generalize encE Pt.zero = y at *
    generalize decE m = f at *
    obtain ⟨q, hq'⟩ : ∃ p, decP m = p := ⟨_, rfl⟩
    rw [hq'] at HR
    have HDD := Lib.hid HD
    have HRR := Lib.hid HR
    have HEE := Lib.hid HE
    unfold cellsP Pt.zero at hne
    dsimp only at hne
    clear T HD HR HE hq' he hz
    go_enter Tryd.func4, Tryd.ntmps4
    go_wp2_with fail
    refine (HDD.out _ (by first | exact HL.out | exact HL.out.on HC6.out | exact HL.out.on HC5.out | exact HL.out.on HC4.out | exact HL.out.on HC3.out | exact HL.out.on HC2.out | exact HL.out.on HC1.out | exact HL.out.on (HC1 _).out | exact HL.out.on HC0.out | exact HL.out.on hC5 | exact HL.out.on hC4 | exact HL.out.on hC3 | exact HL.out.on hC2 | exact HL.out.on hB1)).mono ?_
    rintro e w1 ⟨rfl, hB1⟩
    have HP1 := Lib.hid (PBox.new w1 Pt.zero)
    have HC1 : Hid (Below w.heap.size w (w1.alloc (.cells (cellsP Pt.zero) 24))) := Lib.hid (hB1.alloc hB1.size _)
    unfold cellsP Pt.zero
    dsimp only
    go_wp2_with fail
    refine (HRR.out _ (by first | exact HL.out | exact HL.out.on HC6.out | exact HL.out.on HC5.out | exact HL.out.on HC4.out | exact HL.out.on HC3.out | exact HL.out.on HC2.out | exact HL.out.on HC1.out | exact HL.out.on (HC1 _).out | exact HL.out.on HC0.out | exact HL.out.on hC5 | exact HL.out.on hC4 | exact HL.out.on hC3 | exact HL.out.on hC2 | exact HL.out.on hB1)).mono ?_
    rintro e w2 ⟨rfl, hB2⟩
    have HP2 := Lib.hid ((HP1.out.on hB2).on ((Below.refl _ _).alloc (Nat.le_refl _) (.cells (cellsP q) 24)))
    have HC2 : Hid (Below w.heap.size w (w2.alloc (.cells (cellsP q) 24))) := Lib.hid (bseq' (bseq' HC1.out hB2) ((Below.refl _ _).alloc (Nat.le_refl _) _))
    obtain ⟨z0, z1, z2, z3, z4, z5, z6, z7⟩ := HP2.out.cells
    unfold cellsP Pt.zero at z0 z1 z2 z3 z4 z5 z6 z7
    unfold cellsP
    dsimp only at z0 z1 z2 z3 z4 z5 z6 z7
    go_wp2_with fail
    refine (HEE.out _ (by first | exact HL.out | exact HL.out.on HC6.out | exact HL.out.on HC5.out | exact HL.out.on HC4.out | exact HL.out.on HC3.out | exact HL.out.on HC2.out | exact HL.out.on HC1.out | exact HL.out.on (HC1 _).out | exact HL.out.on HC0.out | exact HL.out.on hC5 | exact HL.out.on hC4 | exact HL.out.on hC3 | exact HL.out.on hC2 | exact HL.out.on hB1)).mono ?_
    rintro e w3 ⟨rfl, hB3⟩
    have HP3 := Lib.hid (HP2.out.on hB3)
    have HC3 := Lib.hid (bseq' HC2.out hB3)
    clear z0 z1 z2 z3 z4 z5 z6 z7
    go_wp2_with fail
    refine (known_ptr HT.out _ (by first | exact HL.out | exact HL.out.on HC6.out | exact HL.out.on HC5.out | exact HL.out.on HC4.out | exact HL.out.on HC3.out | exact HL.out.on HC2.out | exact HL.out.on HC1.out | exact HL.out.on (HC1 _).out | exact HL.out.on HC0.out | exact HL.out.on hC5 | exact HL.out.on hC4 | exact HL.out.on hC3 | exact HL.out.on hC2 | exact HL.out.on hB1)).mono ?_
    rintro e w4 ⟨rfl, hB4⟩
    have HC4 := Lib.hid (bseq' HC3.out hB4)
    obtain ⟨z0, z1, z2, z3, z4, z5, z6, z7⟩ := (HP3.out.on hB4).cells
    unfold Pt.zero at z0 z1 z2 z3 z4 z5 z6 z7
    dsimp only at z0 z1 z2 z3 z4 z5 z6 z7
    go_wp2_with fail
    go_ret
    exact ⟨rfl, HC4.out⟩

end Go.Proofs.YtknmbohokmeidaaDoor
