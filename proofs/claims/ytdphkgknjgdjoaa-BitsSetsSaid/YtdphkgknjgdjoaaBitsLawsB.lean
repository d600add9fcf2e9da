/-
  The walk of layer 3's law BitsFirst: it returns true, and writes nothing that was there.
-/
import Derived.Test.YtdphkgknjgdjoaaBitsLawsA
namespace Go.Proofs.Ytdphkgknjgdjoaa
open Go.RowKit Go.Deep

theorem first_nat {l : List Int} {m : Nat} (h : m ≤ 65536) : firstV l (m : Nat) = (fst l m : Nat) := by
  unfold firstV
  rw [show clipN (m : Int) = m by unfold clipN; omega]
theorem first_later {l : List Int} (hl : AllB l) {m : Nat} (hm : m ≤ 8 * l.length) (h : ¬ fst l m = m) : fst l m + 1 ≤ fst (setL l (fst l m : Nat)) m ∧ fst l m < m ∧ bt l (fst l m) = false := by
  obtain ⟨h1, h2, h3⟩ := fst_is l m
  have h3 := h3.resolve_left h
  obtain ⟨g1, g2, g3⟩ := fst_is (setL l (fst l m : Nat)) m
  refine ⟨?_, by omega, h3⟩
  rcases Nat.lt_or_ge (fst l m) (fst (setL l (fst l m : Nat)) m) with h4 | h4
  · exact h4
  · exfalso
    rcases g3 with g3 | g3
    · omega
    · rw [bt_setL hl] at g3
      have : hasB l.length (fst l m : Nat) = true := by simp [hasB]; omega
      rw [this, Bool.true_and, Bool.or_eq_false_iff] at g3
      have h5 := of_decide_eq_false g3.2
      have h6 := h2 (fst (setL l (fst l m : Nat)) m) (by omega)
      rw [h6] at g3
      cases g3.1

set_option maxHeartbeats 2000000 in
theorem first_walk (n : Nat) (A : Option Addr) (len cap : Nat) (l : List Int) (w : World) (hn : n < 65536) (hlen : l.length = len) (hl : AllB l) (hb : Bytes w w.heap.size (.slice A len cap) l) :
    Calls Try.prog 8 #[.slice A len cap, .int .u16 n] w fun e w' => e = .returned (.bool true) ∧ Below w.heap.size w w' := by
  have HB := Lib.hid hb
  have HL := Lib.hid hlen
  by_cases hlong : 100 < len
  · clear hb hlen
    go_enter Try.func8, Try.ntmps8
    go_wp2_with (go_at_call 10; refine (known_any _).mono ?_; rintro e w1 ⟨rfl, hB⟩)
    go_ret
    exact ⟨rfl, hB⟩
  · obtain ⟨M, hM⟩ : ∃ M, M = n % (8 * len + 1) := ⟨_, rfl⟩
    have hM2 : M < 8 * len + 1 := by rw [hM]; exact Nat.mod_lt _ (by omega)
    have HM : Hid ((n : Int) % (8 * (len : Int) + 1) = (M : Int)) := Lib.hid (by rw [hM]; push_cast; rfl)
    have HF := Lib.hid (first_nat (l := l) (m := M) (by omega))
    obtain ⟨K, hK⟩ : ∃ K, fst l M = K := ⟨_, rfl⟩
    have hI := fst_is l M
    rw [hK] at HF hI
    have HI := Lib.hid hI
    have hK2 : K ≤ M := hI.1
    have HX := Lib.hid (first_later hl (m := M) (by omega))
    rw [hK] at HX
    have HLe : Hid (l.length ≤ 1000000000) := Lib.hid (by omega)
    have HA := Lib.hid hl
    have HSL : Hid ((setL l (K : Nat)).length = len) := Lib.hid ((setL_length _ _).trans hlen)
    have HSA : Hid (AllB (setL l (K : Nat))) := Lib.hid (setL_AllB hl _)
    have HFS := Lib.hid (first_nat (l := setL l (K : Nat)) (m := M) (by omega))
    clear hb hlen hM hK hI hl
    go_enter Try.func8, Try.ntmps8
    go_wp2_with fail
    rw [HM.out]
    refine (bfirst_any _ l (M : Nat) _ HB.out HA.out HLe.out).mono ?_
    rintro e w1 ⟨rfl, hB1⟩
    rw [HF.out]
    have HB1 := Lib.hid (HB.out.on hB1)
    go_wp2_with fail
    go_loop [7] (fun i => ∃ t : Nat, t ≤ K ∧ i = .int .i64 t) (fun i => K - (intOf i).toNat)
    case atStart => exact ⟨0, by omega, rfl⟩
    case round =>
      obtain ⟨t, ht, rfl⟩ := hrel
      by_cases hlt : t < K
      · have HG : Hid (getB l (t : Int) = true) := Lib.hid (by rw [getB_nat]; exact HI.out.2.1 t hlt)
        go_wp2_with (go_at_call 19; refine (bget_any _ l _ t _ HB1.out HA.out (by omega) (by omega)).mono ?_; rintro e w' ⟨rfl, rfl⟩; rw [HG.out])
        go_round
        case rel => exact ⟨t + 1, by omega, by go_num⟩
        case measure => simp [intOf]; omega
      · have hge : K ≤ t := by omega
        go_wp2_with fail
        refine (known_any _).mono ?_
        rintro e w2 ⟨rfl, hB2⟩
        by_cases hKM : K = M
        · subst hKM
          have d1 : ((K : Int) == (K : Int)) = true := by simp
          go_wp2_with fail
          go_ret
          exact ⟨rfl, bseq hB1 hB2⟩
        · have d1 : ((K : Int) == (M : Int)) = false := by rw [beq_eq_false_iff_ne]; omega
          obtain ⟨x1, x2, x3⟩ := HX.out hKM
          have HG : Hid (getB l (K : Int) = false) := Lib.hid (by rw [getB_nat]; exact x3)
          clear x3
          go_wp2_with fail
          refine (bget_any _ l _ K _ (HB1.out.on hB2) HA.out (by omega) (by omega)).mono ?_
          rintro e w' ⟨rfl, rfl⟩
          rw [HG.out]
          go_wp2_with fail
          refine (bset_row _ l K _ (HB1.out.on hB2) HA.out HLe.out (by omega) (by omega)).mono ?_
          rintro e w3 ⟨rfl, hr3, hB3⟩
          have hb3 := hr3.bytes (c := len) (by rw [HSL.out]; exact Nat.le_refl _) (by omega)
          rw [HSL.out] at hb3
          have HY := Lib.hid hb3
          rw [HL.out]
          clear hr3 hb3
          go_wp2_with fail
          refine (bfirst_any _ _ (M : Nat) _ HY.out HSA.out (by rw [HSL.out]; omega)).mono ?_
          rintro e w4 ⟨rfl, hB4⟩
          rw [HFS.out]
          generalize fst (setL l (K : Nat)) M = K' at *
          have x4 : (K : Int) < (K' : Int) := by omega
          go_wp2_with fail
          go_ret
          exact ⟨rfl, bseq hB1 (bseq hB2 (bseq hB3 hB4))⟩

end Go.Proofs.Ytdphkgknjgdjoaa
