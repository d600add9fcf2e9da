/-
  The walks of layer 3's laws BitsEnds and BitsFirst: each returns true, and writes nothing that was there.
-/
import Derived.Test.YtdphkgknjgdjoaaBitsKnown
import Derived.Test.YtdphkgknjgdjoaaBytesStr
namespace Go.Proofs.Ytdphkgknjgdjoaa
open Go.RowKit Go.Deep

theorem zerosL_AllB (n : Nat) : AllB (List.replicate n (0 : Int)) := fun x hx => by rw [List.eq_of_mem_replicate hx]; omega
theorem bt_zeros (n j : Nat) : bt (List.replicate n 0) j = false := by
  unfold bt
  rw [List.getElem?_replicate]
  split <;> exact bitN_zero _
theorem makeN_nat {m : Nat} (h : m ≤ 65536) : makeN (m : Nat) = (m + 7) / 8 := by
  unfold makeN clipN; omega
theorem ends_right {m : Nat} (h : m ≤ 65536) : rightOK (List.replicate (makeN (m : Nat)) 0) (m : Nat) = true := by
  unfold rightOK
  rw [decide_eq_true (by rw [List.length_replicate]; omega), Bool.true_and]
  exact noneFrom_iff.2 (fun i _ => bt_zeros _ i)
theorem ends_long {m k : Nat} (h : m ≤ 65000) (hk : k = makeN ((m : Int) + 8)) : rightOK (List.replicate k 0) (m : Nat) = false := by
  unfold rightOK
  rw [decide_eq_false, Bool.false_and]
  rw [List.length_replicate, hk]
  have e : ((m : Int) + 8) = ((m + 8 : Nat) : Int) := by omega
  rw [e, makeN_nat (by omega), makeN_nat (by omega)]
  omega
theorem ends_neg (l : List Int) : rightOK l (-1) = false := by
  unfold rightOK
  rw [decide_eq_false (by omega), Bool.false_and]
theorem ends_set {m i : Nat} (h : m ≤ 65000) (hi : i < 8 * makeN (m : Nat)) : rightOK (setL (List.replicate (makeN (m : Nat)) 0) (i : Nat)) (m : Nat) = decide (i < m) := by
  unfold rightOK
  rw [decide_eq_true (by rw [setL_length, List.length_replicate]; omega), Bool.true_and, Int.toNat_natCast]
  have hb : ∀ j, bt (setL (List.replicate (makeN (m : Nat)) 0) (i : Nat)) j = decide (j = i) := fun j => by
    rw [bt_setL (zerosL_AllB _), bt_zeros, Bool.false_or, List.length_replicate, show hasB (makeN (m : Nat)) (i : Nat) = true by simp [hasB]; omega, Bool.true_and, Bool.eq_iff_iff, decide_eq_true_iff, decide_eq_true_iff]
    omega
  rw [Bool.eq_iff_iff, noneFrom_iff, decide_eq_true_iff]
  constructor
  · intro h2
    rcases Nat.lt_or_ge i m with h3 | h3
    · exact h3
    · have := h2 i h3
      rw [hb] at this
      simp at this
  · intro h2 j hj
    rw [hb]
    exact decide_eq_false (by omega)
theorem ends_get {m i : Nat} (hi : i < 8 * m) : getB (setL (List.replicate m 0) (i : Nat)) (i : Nat) = true := by
  rw [getB_nat, bt_setL (zerosL_AllB _), bt_zeros, Bool.false_or, List.length_replicate, show hasB m (i : Nat) = true by simp [hasB]; omega]
  simp

set_option maxHeartbeats 2000000 in
theorem ends_walk (m : Nat) (i : Int) (w : World) (hm : m < 256) (h0 : -9223372036854775808 ≤ i) (h1 : i ≤ 9223372036854775807) :
    Calls Try.prog 9 #[.int .u8 m, .int .i64 i] w fun e w' => e = .returned (.bool true) ∧ Below w.heap.size w w' := by
  obtain ⟨M, hM⟩ : ∃ M, makeN (m : Nat) = M := ⟨_, rfl⟩
  have HM := Lib.hid hM
  have HR1 := ends_right (m := m) (by omega)
  have hM2 : M ≤ 8192 := by rw [← hM]; exact makeN_le _
  rw [hM] at HR1
  have HR := Lib.hid HR1
  have HZ := Lib.hid (zerosL_AllB M)
  obtain ⟨N, hN⟩ : ∃ N, makeN ((m : Int) + 8) = N := ⟨_, rfl⟩
  have HN := Lib.hid hN
  have hN2 : N ≤ 8192 := by rw [← hN]; exact makeN_le _
  have HL2 := Lib.hid (ends_long (m := m) (k := N) (by omega) hN.symm)
  have HE := Lib.hid (ends_neg (List.replicate M 0))
  clear hN
  by_cases hin : 0 ≤ i ∧ i < 8 * M
  · obtain ⟨k, rfl⟩ := Int.eq_ofNat_of_zero_le hin.1
    have k1 : k < 8 * M := by omega
    have k2 : (k : Int) < 8 * (M : Int) := by omega
    have HG := Lib.hid (ends_get (m := M) k1)
    have HS1 := ends_set (m := m) (i := k) (by omega) (by rw [hM]; exact k1)
    rw [hM] at HS1
    have HS := Lib.hid HS1
    clear hM HR1 HS1 hin
    go_enter Try.func9, Try.ntmps9
    go_wp2_with fail
    refine (bmake_row _ _).mono ?_
    rintro e w1 ⟨rfl, hr1, hB1⟩
    rw [HM.out] at hr1 ⊢
    have HY1 : Hid (Bytes w1 w1.heap.size (.slice (some ⟨w.heap.size, 0, none⟩) M M) (List.replicate M 0)) := Lib.hid (by have := hr1.bytes (c := M) (by simp) (by omega); rwa [List.length_replicate] at this)
    clear hr1
    go_wp2_with fail
    refine (bset_row _ (List.replicate M 0) (k : Int) w1 HY1.out HZ.out (by simp; omega) h0 h1).mono ?_
    rintro e w2 ⟨rfl, hr2, hB2⟩
    have hb2 := hr2.bytes (c := M) (by rw [setL_length]; simp) (by omega)
    rw [setL_length, List.length_replicate] at hb2
    rw [List.length_replicate]
    have HY2 := Lib.hid hb2
    have HA2 : Hid (AllB (setL (List.replicate M 0) (k : Int))) := Lib.hid (setL_AllB HZ.out _)
    clear hr2 hb2
    go_wp2_with fail
    refine (known_any _).mono ?_
    rintro e w3 ⟨rfl, hB3⟩
    go_wp2_with fail
    refine (bget_any _ _ _ (k : Int) _ (HY2.out.on hB3) HA2.out h0 h1).mono ?_
    rintro e w' ⟨rfl, rfl⟩
    rw [HG.out]
    go_wp2_with fail
    refine (bright_any _ _ _ _ (HY1.out.on (bseq hB2 hB3)) HZ.out).mono ?_
    rintro e w4 ⟨rfl, hB4⟩
    rw [HR.out]
    go_wp2_with fail
    refine (bmake_row _ _).mono ?_
    rintro e w5 ⟨rfl, hr5, hB5⟩
    rw [HN.out] at hr5 ⊢
    have HY5 : Hid (Bytes w5 w5.heap.size (.slice (some ⟨w4.heap.size, 0, none⟩) N N) (List.replicate N 0)) := Lib.hid (by have := hr5.bytes (c := N) (by simp) (by omega); rwa [List.length_replicate] at this)
    clear hr5
    go_wp2_with fail
    refine (bright_any _ _ _ _ HY5.out (zerosL_AllB N)).mono ?_
    rintro e w6 ⟨rfl, hB6⟩
    rw [HL2.out]
    go_wp2_with fail
    refine (bright_any _ _ _ _ (HY1.out.on (bseq hB2 (bseq hB3 (bseq hB4 (bseq hB5 hB6))))) HZ.out).mono ?_
    rintro e w7 ⟨rfl, hB7⟩
    rw [HE.out]
    go_wp2_with fail
    refine (bright_any _ _ _ _ (HY2.out.on (bseq hB3 (bseq hB4 (bseq hB5 (bseq hB6 hB7))))) HA2.out).mono ?_
    rintro e w8 ⟨rfl, hB8⟩
    rw [HS.out]
    have HBB := Lib.hid (bseq hB1 (bseq hB2 (bseq hB3 (bseq hB4 (bseq hB5 (bseq hB6 (bseq hB7 hB8)))))))
    clear hB1 hB2 hB3 hB4 hB5 hB6 hB7 hB8
    by_cases hkm : k < m
    · have e1 : decide (k < m) = true := decide_eq_true hkm
      rw [e1]
      go_wp2
      go_ret
      exact ⟨rfl, HBB.out⟩
    · have e1 : decide (k < m) = false := decide_eq_false hkm
      rw [e1]
      go_wp2
      go_ret
      exact ⟨rfl, HBB.out⟩
  · have hno : hasB M i = false := by simp only [hasB, decide_eq_false_iff_not]; omega
    have HSZ : Hid (setL (List.replicate M 0) i = List.replicate M 0) := Lib.hid (by unfold setL; rw [if_neg (by rw [List.length_replicate]; omega)])
    have HG : Hid (getB (List.replicate M 0) i = false) := Lib.hid (getB_out (by rw [List.length_replicate]; omega))
    have hcase : i < 0 ∨ (0 ≤ i ∧ 8 * (M : Int) ≤ i) := by omega
    clear hM HR1 hin hno
    rcases hcase with hc | ⟨hc, hc2⟩
    all_goals
      go_enter Try.func9, Try.ntmps9
      go_wp2_with fail
      refine (bmake_row _ _).mono ?_
      rintro e w1 ⟨rfl, hr1, hB1⟩
      rw [HM.out] at hr1 ⊢
      have HY1 : Hid (Bytes w1 w1.heap.size (.slice (some ⟨w.heap.size, 0, none⟩) M M) (List.replicate M 0)) := Lib.hid (by have := hr1.bytes (c := M) (by simp) (by omega); rwa [List.length_replicate] at this)
      clear hr1
      go_wp2_with fail
      refine (bset_row _ (List.replicate M 0) i w1 HY1.out HZ.out (by simp; omega) h0 h1).mono ?_
      rintro e w2 ⟨rfl, hr2, hB2⟩
      rw [HSZ.out] at hr2
      have hb2 := hr2.bytes (c := M) (by simp) (by omega)
      rw [List.length_replicate] at hb2
      rw [List.length_replicate]
      have HY2 := Lib.hid hb2
      have HA2 := HZ
      clear hr2 hb2
      go_wp2_with fail
      refine (known_any _).mono ?_
      rintro e w3 ⟨rfl, hB3⟩
      have hcv1 := bytes_conv (HY1.out.on (bseq hB2 hB3))
      have hcv2 := bytes_conv (HY2.out.on hB3)
      go_wp2_with fail
      refine (bget_any _ _ _ i _ (HY2.out.on hB3) HA2.out h0 h1).mono ?_
      rintro e w' ⟨rfl, rfl⟩
      rw [HG.out]
      go_wp2_with fail
      clear hcv1 hcv2
      refine (bright_any _ _ _ _ (HY1.out.on (bseq hB2 hB3)) HZ.out).mono ?_
      rintro e w4 ⟨rfl, hB4⟩
      rw [HR.out]
      go_wp2_with fail
      refine (bmake_row _ _).mono ?_
      rintro e w5 ⟨rfl, hr5, hB5⟩
      rw [HN.out] at hr5 ⊢
      have HY5 : Hid (Bytes w5 w5.heap.size (.slice (some ⟨w4.heap.size, 0, none⟩) N N) (List.replicate N 0)) := Lib.hid (by have := hr5.bytes (c := N) (by simp) (by omega); rwa [List.length_replicate] at this)
      clear hr5
      go_wp2_with fail
      refine (bright_any _ _ _ _ HY5.out (zerosL_AllB N)).mono ?_
      rintro e w6 ⟨rfl, hB6⟩
      rw [HL2.out]
      go_wp2_with fail
      refine (bright_any _ _ _ _ (HY1.out.on (bseq hB2 (bseq hB3 (bseq hB4 (bseq hB5 hB6))))) HZ.out).mono ?_
      rintro e w7 ⟨rfl, hB7⟩
      rw [HE.out]
      go_wp2_with fail
      refine (bright_any _ _ _ _ (HY2.out.on (bseq hB3 (bseq hB4 (bseq hB5 (bseq hB6 hB7))))) HA2.out).mono ?_
      rintro e w8 ⟨rfl, hB8⟩
      rw [HR.out]
      have HBB := Lib.hid (bseq hB1 (bseq hB2 (bseq hB3 (bseq hB4 (bseq hB5 (bseq hB6 (bseq hB7 hB8)))))))
      clear hB1 hB2 hB3 hB4 hB5 hB6 hB7 hB8
      go_wp2
      go_ret
      exact ⟨rfl, HBB.out⟩

end Go.Proofs.Ytdphkgknjgdjoaa
