/-
  Layer 6: the walk of PtrOffs.
-/
import Derived.Test.YtknmbohokmeidaaDoorPtrLawsA
namespace Go.Proofs.YtknmbohokmeidaaDoor
open Go.RowKit Go.Deep

theorem tmod_bd (x b : Int) (hb : 0 < b) : -b < x.tmod b ∧ x.tmod b < b := by
  rcases Int.le_total 0 x with h | h
  · rw [Int.tmod_eq_emod_of_nonneg h]
    have h1 := Int.emod_nonneg x (b := b) (by omega)
    have h2 := Int.emod_lt_of_pos x hb
    omega
  · have h0 : (-x).tmod b = -(x.tmod b) := Int.neg_tmod x b
    rw [Int.tmod_eq_emod_of_nonneg (by omega)] at h0
    have h1 := Int.emod_nonneg (-x) (b := b) (by omega)
    have h2 := Int.emod_lt_of_pos (-x) hb
    omega
/-- what the two words are -/
theorem offs_word {N D R : Int} (h1 : -268435456 ≤ N) (h2 : N ≤ 268435458) (d0 : 0 ≤ D) (d1 : D < 65536) (r0 : 0 ≤ R) (r1 : R < 65536) (hn : ¬ (N = 0 ∧ D = 0 ∧ R = 0)) :
    encE ⟨1, N, D, R, 0, 0, 0, false⟩ = 0 ∧ encW ⟨1, N, D, R, 0, 0, 0, false⟩ = 4 * (N % 1073741824) + D * 4294967296 + R * 281474976710656 := by
  have h : encB ⟨1, N, D, R, 0, 0, 0, false⟩ = true := ok_enc (.inr (.inl ⟨rfl, by dsimp only; omega, by dsimp only; omega, by dsimp only; omega, rfl, rfl, rfl, rfl, hn⟩))
  unfold encE encW
  rw [h]
  refine ⟨rfl, ?_⟩
  simp only [if_true, rawW]
  omega
set_option maxRecDepth 100000 in
set_option maxHeartbeats 4000000 in
theorem poffs_walk (T : PtrOK) (x : Int) (d r : Nat) (w : World) (hd : d < 65536) (hr : r < 65536) (L : Laid w) : Calls Tryd.prog 8 #[.int .i32 x, .int .u16 d, .int .u16 r] w fun e w' => e = .returned (.bool true) ∧ Below w.heap.size w w' := by
  have HL := Lib.hid L
  clear L
  have HT := Lib.hid T
  obtain ⟨v0, v1⟩ := tmod_bd x 268435456 (by decide)
  go_enter Tryd.func8, Tryd.ntmps8
  go_wp2_with fail
  generalize hN : x.tmod 268435456 + 1 = N
  have b0 : -268435455 ≤ N := by omega
  have b1 : N ≤ 268435456 := by omega
  have HI1 : Hid (InP ⟨1, N, d, r, 0, 0, 0, false⟩) := Lib.hid (by unfold InP I64; dsimp only; omega)
  have HI2 : Hid (InP ⟨1, N + 1, d, r, 0, 0, 0, false⟩) := Lib.hid (by unfold InP I64; dsimp only; omega)
  clear hN v0 v1 T
  refine (HT.out.enc ⟨1, N, d, r, 0, 0, 0, false⟩ w HI1.out (by first | exact HL.out | exact HL.out.on HC6.out | exact HL.out.on HC5.out | exact HL.out.on HC4.out | exact HL.out.on HC3.out | exact HL.out.on HC2.out | exact HL.out.on HC1.out | exact HL.out.on (HC1 _).out | exact HL.out.on HC0.out | exact HL.out.on hC5 | exact HL.out.on hC4 | exact HL.out.on hC3 | exact HL.out.on hC2 | exact HL.out.on hB1)).mono ?_
  rintro e w1 ⟨rfl, hB1⟩
  by_cases hA : (N = 0 ∨ N = -1) ∧ d = 0 ∧ r = 0
  · obtain ⟨hN, rfl, rfl⟩ := hA
    generalize encW ⟨1, N, ((0 : Nat) : Int), ((0 : Nat) : Int), 0, 0, 0, false⟩ = a
    generalize encE ⟨1, N, ((0 : Nat) : Int), ((0 : Nat) : Int), 0, 0, 0, false⟩ = f0
    rcases hN with rfl | rfl
    · go_wp2_with fail
      refine (HT.out.enc ⟨1, (0 : Int) + 1, ((0 : Nat) : Int), ((0 : Nat) : Int), 0, 0, 0, false⟩ w1 HI2.out (by first | exact HL.out | exact HL.out.on HC6.out | exact HL.out.on HC5.out | exact HL.out.on HC4.out | exact HL.out.on HC3.out | exact HL.out.on HC2.out | exact HL.out.on HC1.out | exact HL.out.on (HC1 _).out | exact HL.out.on HC0.out | exact HL.out.on hC5 | exact HL.out.on hC4 | exact HL.out.on hC3 | exact HL.out.on hC2 | exact HL.out.on hB1)).mono ?_
      rintro e w2 ⟨rfl, hB2⟩
      have hC2 := bseq' hB1 hB2
      generalize encW ⟨1, (0 : Int) + 1, ((0 : Nat) : Int), ((0 : Nat) : Int), 0, 0, 0, false⟩ = y
      generalize encE ⟨1, (0 : Int) + 1, ((0 : Nat) : Int), ((0 : Nat) : Int), 0, 0, 0, false⟩ = f
      go_wp2_with fail
      refine (known_ptr HT.out _ (by first | exact HL.out | exact HL.out.on HC6.out | exact HL.out.on HC5.out | exact HL.out.on HC4.out | exact HL.out.on HC3.out | exact HL.out.on HC2.out | exact HL.out.on HC1.out | exact HL.out.on (HC1 _).out | exact HL.out.on HC0.out | exact HL.out.on hC5 | exact HL.out.on hC4 | exact HL.out.on hC3 | exact HL.out.on hC2 | exact HL.out.on hB1)).mono ?_
      rintro e w3 ⟨rfl, hB3⟩
      have hC3 := bseq' hC2 hB3
      go_wp2_with fail
      go_ret
      exact ⟨rfl, hC3⟩
    · go_wp2_with fail
      refine (HT.out.enc ⟨1, (-1 : Int) + 1, ((0 : Nat) : Int), ((0 : Nat) : Int), 0, 0, 0, false⟩ w1 HI2.out (by first | exact HL.out | exact HL.out.on HC6.out | exact HL.out.on HC5.out | exact HL.out.on HC4.out | exact HL.out.on HC3.out | exact HL.out.on HC2.out | exact HL.out.on HC1.out | exact HL.out.on (HC1 _).out | exact HL.out.on HC0.out | exact HL.out.on hC5 | exact HL.out.on hC4 | exact HL.out.on hC3 | exact HL.out.on hC2 | exact HL.out.on hB1)).mono ?_
      rintro e w2 ⟨rfl, hB2⟩
      have hC2 := bseq' hB1 hB2
      generalize encW ⟨1, (-1 : Int) + 1, ((0 : Nat) : Int), ((0 : Nat) : Int), 0, 0, 0, false⟩ = y
      generalize encE ⟨1, (-1 : Int) + 1, ((0 : Nat) : Int), ((0 : Nat) : Int), 0, 0, 0, false⟩ = f
      go_wp2_with fail
      refine (known_ptr HT.out _ (by first | exact HL.out | exact HL.out.on HC6.out | exact HL.out.on HC5.out | exact HL.out.on HC4.out | exact HL.out.on HC3.out | exact HL.out.on HC2.out | exact HL.out.on HC1.out | exact HL.out.on (HC1 _).out | exact HL.out.on HC0.out | exact HL.out.on hC5 | exact HL.out.on hC4 | exact HL.out.on hC3 | exact HL.out.on hC2 | exact HL.out.on hB1)).mono ?_
      rintro e w3 ⟨rfl, hB3⟩
      have hC3 := bseq' hC2 hB3
      go_wp2_with fail
      go_ret
      exact ⟨rfl, hC3⟩
  · obtain ⟨e1, q1⟩ := offs_word (N := N) (D := d) (R := r) (by omega) (by omega) (by omega) (by omega) (by omega) (by omega) (by omega)
    have HW2 := Lib.hid (offs_word (N := N + 1) (D := d) (R := r) (by omega) (by omega) (by omega) (by omega) (by omega) (by omega) (by omega))
    rw [e1, q1]
    have HSh : Hid ((4 * (N % 1073741824) + (d : Int) * 4294967296 + (r : Int) * 281474976710656) / 4294967296 = (4 * ((N + 1) % 1073741824) + (d : Int) * 4294967296 + (r : Int) * 281474976710656) / 4294967296) := Lib.hid (by omega)
    have HSu : Hid ((4 * ((N + 1) % 1073741824) + (d : Int) * 4294967296 + (r : Int) * 281474976710656 - (4 * (N % 1073741824) + (d : Int) * 4294967296 + (r : Int) * 281474976710656)) % 4294967296 = 4) := Lib.hid (by omega)
    have HBa : Hid (0 ≤ 4 * (N % 1073741824) + (d : Int) * 4294967296 + (r : Int) * 281474976710656 ∧ 4 * (N % 1073741824) + (d : Int) * 4294967296 + (r : Int) * 281474976710656 < 18446744073709551616) := Lib.hid (by omega)
    have HBy : Hid (0 ≤ 4 * ((N + 1) % 1073741824) + (d : Int) * 4294967296 + (r : Int) * 281474976710656 ∧ 4 * ((N + 1) % 1073741824) + (d : Int) * 4294967296 + (r : Int) * 281474976710656 < 18446744073709551616) := Lib.hid (by omega)
    generalize 4 * (N % 1073741824) + (d : Int) * 4294967296 + (r : Int) * 281474976710656 = a at *
    generalize 4 * ((N + 1) % 1073741824) + (d : Int) * 4294967296 + (r : Int) * 281474976710656 = y at *
    clear e1 q1
    by_cases h0 : N = 0
    · subst h0
      by_cases hd0 : d = 0
      · subst hd0
        have g1 : ((r : Int) == 0) = false := by rw [beq_eq_false_iff_ne]; omega
        go_wp2_with fail
        refine (HT.out.enc ⟨1, (0 : Int) + 1, ((0 : Nat) : Int), r, 0, 0, 0, false⟩ w1 HI2.out (by first | exact HL.out | exact HL.out.on HC6.out | exact HL.out.on HC5.out | exact HL.out.on HC4.out | exact HL.out.on HC3.out | exact HL.out.on HC2.out | exact HL.out.on HC1.out | exact HL.out.on (HC1 _).out | exact HL.out.on HC0.out | exact HL.out.on hC5 | exact HL.out.on hC4 | exact HL.out.on hC3 | exact HL.out.on hC2 | exact HL.out.on hB1)).mono ?_
        rintro e w2 ⟨rfl, hB2⟩
        have hC2 := bseq' hB1 hB2
        rw [HW2.out.1, HW2.out.2]
        go_wp2_with fail
        refine (known_ptr HT.out _ (by first | exact HL.out | exact HL.out.on HC6.out | exact HL.out.on HC5.out | exact HL.out.on HC4.out | exact HL.out.on HC3.out | exact HL.out.on HC2.out | exact HL.out.on HC1.out | exact HL.out.on (HC1 _).out | exact HL.out.on HC0.out | exact HL.out.on hC5 | exact HL.out.on hC4 | exact HL.out.on hC3 | exact HL.out.on hC2 | exact HL.out.on hB1)).mono ?_
        rintro e w3 ⟨rfl, hB3⟩
        have hC3 := bseq' hC2 hB3
        have hsh := HSh.out
        have hba := HBa.out
        have hby := HBy.out
        have hs1 : (a / 4294967296 == y / 4294967296) = true := by simpa using hsh
        clear hsh
        go_wp2_with fail
        go_ret
        exact ⟨by show Ending.returned (.bool ((y - a) % 4294967296 == 4)) = _; rw [HSu.out]; rfl, hC3⟩
      · have g1 : ((d : Int) == 0) = false := by rw [beq_eq_false_iff_ne]; omega
        go_wp2_with fail
        refine (HT.out.enc ⟨1, (0 : Int) + 1, d, r, 0, 0, 0, false⟩ w1 HI2.out (by first | exact HL.out | exact HL.out.on HC6.out | exact HL.out.on HC5.out | exact HL.out.on HC4.out | exact HL.out.on HC3.out | exact HL.out.on HC2.out | exact HL.out.on HC1.out | exact HL.out.on (HC1 _).out | exact HL.out.on HC0.out | exact HL.out.on hC5 | exact HL.out.on hC4 | exact HL.out.on hC3 | exact HL.out.on hC2 | exact HL.out.on hB1)).mono ?_
        rintro e w2 ⟨rfl, hB2⟩
        have hC2 := bseq' hB1 hB2
        rw [HW2.out.1, HW2.out.2]
        go_wp2_with fail
        refine (known_ptr HT.out _ (by first | exact HL.out | exact HL.out.on HC6.out | exact HL.out.on HC5.out | exact HL.out.on HC4.out | exact HL.out.on HC3.out | exact HL.out.on HC2.out | exact HL.out.on HC1.out | exact HL.out.on (HC1 _).out | exact HL.out.on HC0.out | exact HL.out.on hC5 | exact HL.out.on hC4 | exact HL.out.on hC3 | exact HL.out.on hC2 | exact HL.out.on hB1)).mono ?_
        rintro e w3 ⟨rfl, hB3⟩
        have hC3 := bseq' hC2 hB3
        have hsh := HSh.out
        have hba := HBa.out
        have hby := HBy.out
        have hs1 : (a / 4294967296 == y / 4294967296) = true := by simpa using hsh
        clear hsh
        go_wp2_with fail
        go_ret
        exact ⟨by show Ending.returned (.bool ((y - a) % 4294967296 == 4)) = _; rw [HSu.out]; rfl, hC3⟩
    by_cases h1 : N = -1
    · subst h1
      by_cases hd0 : d = 0
      · subst hd0
        have g1 : ((r : Int) == 0) = false := by rw [beq_eq_false_iff_ne]; omega
        go_wp2_with fail
        refine (HT.out.enc ⟨1, (-1 : Int) + 1, ((0 : Nat) : Int), r, 0, 0, 0, false⟩ w1 HI2.out (by first | exact HL.out | exact HL.out.on HC6.out | exact HL.out.on HC5.out | exact HL.out.on HC4.out | exact HL.out.on HC3.out | exact HL.out.on HC2.out | exact HL.out.on HC1.out | exact HL.out.on (HC1 _).out | exact HL.out.on HC0.out | exact HL.out.on hC5 | exact HL.out.on hC4 | exact HL.out.on hC3 | exact HL.out.on hC2 | exact HL.out.on hB1)).mono ?_
        rintro e w2 ⟨rfl, hB2⟩
        have hC2 := bseq' hB1 hB2
        rw [HW2.out.1, HW2.out.2]
        go_wp2_with fail
        refine (known_ptr HT.out _ (by first | exact HL.out | exact HL.out.on HC6.out | exact HL.out.on HC5.out | exact HL.out.on HC4.out | exact HL.out.on HC3.out | exact HL.out.on HC2.out | exact HL.out.on HC1.out | exact HL.out.on (HC1 _).out | exact HL.out.on HC0.out | exact HL.out.on hC5 | exact HL.out.on hC4 | exact HL.out.on hC3 | exact HL.out.on hC2 | exact HL.out.on hB1)).mono ?_
        rintro e w3 ⟨rfl, hB3⟩
        have hC3 := bseq' hC2 hB3
        have hsh := HSh.out
        have hba := HBa.out
        have hby := HBy.out
        have hs1 : (a / 4294967296 == y / 4294967296) = true := by simpa using hsh
        clear hsh
        go_wp2_with fail
        go_ret
        exact ⟨by show Ending.returned (.bool ((y - a) % 4294967296 == 4)) = _; rw [HSu.out]; rfl, hC3⟩
      · have g1 : ((d : Int) == 0) = false := by rw [beq_eq_false_iff_ne]; omega
        go_wp2_with fail
        refine (HT.out.enc ⟨1, (-1 : Int) + 1, d, r, 0, 0, 0, false⟩ w1 HI2.out (by first | exact HL.out | exact HL.out.on HC6.out | exact HL.out.on HC5.out | exact HL.out.on HC4.out | exact HL.out.on HC3.out | exact HL.out.on HC2.out | exact HL.out.on HC1.out | exact HL.out.on (HC1 _).out | exact HL.out.on HC0.out | exact HL.out.on hC5 | exact HL.out.on hC4 | exact HL.out.on hC3 | exact HL.out.on hC2 | exact HL.out.on hB1)).mono ?_
        rintro e w2 ⟨rfl, hB2⟩
        have hC2 := bseq' hB1 hB2
        rw [HW2.out.1, HW2.out.2]
        go_wp2_with fail
        refine (known_ptr HT.out _ (by first | exact HL.out | exact HL.out.on HC6.out | exact HL.out.on HC5.out | exact HL.out.on HC4.out | exact HL.out.on HC3.out | exact HL.out.on HC2.out | exact HL.out.on HC1.out | exact HL.out.on (HC1 _).out | exact HL.out.on HC0.out | exact HL.out.on hC5 | exact HL.out.on hC4 | exact HL.out.on hC3 | exact HL.out.on hC2 | exact HL.out.on hB1)).mono ?_
        rintro e w3 ⟨rfl, hB3⟩
        have hC3 := bseq' hC2 hB3
        have hsh := HSh.out
        have hba := HBa.out
        have hby := HBy.out
        have hs1 : (a / 4294967296 == y / 4294967296) = true := by simpa using hsh
        clear hsh
        go_wp2_with fail
        go_ret
        exact ⟨by show Ending.returned (.bool ((y - a) % 4294967296 == 4)) = _; rw [HSu.out]; rfl, hC3⟩
    have g1 : (N == 0) = false := by rw [beq_eq_false_iff_ne]; exact h0
    have g2 : (N == -1) = false := by rw [beq_eq_false_iff_ne]; exact h1
    go_wp2_with fail
    refine (HT.out.enc ⟨1, N + 1, d, r, 0, 0, 0, false⟩ w1 HI2.out (by first | exact HL.out | exact HL.out.on HC6.out | exact HL.out.on HC5.out | exact HL.out.on HC4.out | exact HL.out.on HC3.out | exact HL.out.on HC2.out | exact HL.out.on HC1.out | exact HL.out.on (HC1 _).out | exact HL.out.on HC0.out | exact HL.out.on hC5 | exact HL.out.on hC4 | exact HL.out.on hC3 | exact HL.out.on hC2 | exact HL.out.on hB1)).mono ?_
    rintro e w2 ⟨rfl, hB2⟩
    have hC2 := bseq' hB1 hB2
    rw [HW2.out.1, HW2.out.2]
    go_wp2_with fail
    refine (known_ptr HT.out _ (by first | exact HL.out | exact HL.out.on HC6.out | exact HL.out.on HC5.out | exact HL.out.on HC4.out | exact HL.out.on HC3.out | exact HL.out.on HC2.out | exact HL.out.on HC1.out | exact HL.out.on (HC1 _).out | exact HL.out.on HC0.out | exact HL.out.on hC5 | exact HL.out.on hC4 | exact HL.out.on hC3 | exact HL.out.on hC2 | exact HL.out.on hB1)).mono ?_
    rintro e w3 ⟨rfl, hB3⟩
    have hC3 := bseq' hC2 hB3
    have hsh := HSh.out
    have hba := HBa.out
    have hby := HBy.out
    have hs1 : (a / 4294967296 == y / 4294967296) = true := by simpa using hsh
    clear hsh
    go_wp2_with fail
    go_ret
    exact ⟨by show Ending.returned (.bool ((y - a) % 4294967296 == 4)) = _; rw [HSu.out]; rfl, hC3⟩

end Go.Proofs.YtknmbohokmeidaaDoor
