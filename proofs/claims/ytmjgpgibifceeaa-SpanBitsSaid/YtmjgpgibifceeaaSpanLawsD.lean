/-
  The walk of layer 4's law SpanBits: it returns true, and writes nothing that was there.
-/
import Derived.Test.YtmjgpgibifceeaaSpanLawsC
namespace Go.Proofs.Ytmjgpgibifceeaa
open Go.RowKit Go.Deep

theorem bit_rem {x : Int} {k : Nat} (h0 : 0 ≤ x) : ((x / 2 ^ k).tmod 2 == 1) = bitN x k := by
  have p := pow_pos k
  rw [Int.tmod_eq_emod_of_nonneg (Int.ediv_nonneg h0 (by omega)), Bool.eq_iff_iff, beq_iff_eq]
  unfold bitN
  rw [decide_eq_true_iff]

set_option maxRecDepth 100000 in
set_option maxHeartbeats 4000000 in
theorem bits_walk (i : Nat) (A : Option Addr) (len cap : Nat) (c : List Int) (w : World) (hi : i < 65536) (hlen : c.length = len) (hc : AllB c) (hb : Bytes w w.heap.size (.slice A len cap) c) :
    Calls Try.prog 6 #[.slice A len cap, .int .u16 i] w fun e w' => e = .returned (.bool true) ∧ Below w.heap.size w w' := by
  have HY := Lib.hid hb
  by_cases hlong : 100 < len
  · have d0 : decide (100 < (len : Int)) = true := decide_eq_true (by omega)
    clear hb hlen
    go_enter Try.func6, Try.ntmps6
    go_wp2_with (go_at_call 10; refine (known_any _).mono ?_; rintro e w1 ⟨rfl, hB⟩)
    go_ret
    exact ⟨rfl, hB⟩
  · have d0 : decide (100 < (len : Int)) = false := decide_eq_false (by omega)
    have HA := Lib.hid hc
    have HN := Lib.hid hlen
    have hle : len ≤ 100 := by omega
    have h8 : 8 * c.length ≤ 8000000 := by omega
    have HL := Lib.hid (of_long h8)
    have HH := Lib.hid (of_has h8)
    obtain ⟨r1, r2, r3, r4⟩ := ofTo_is c (8 * c.length) h8
    have HRt := Lib.hid (right_true r1)
    have HAo : Hid (AllS (ofL c)) := Lib.hid r3
    have HLo : Hid ((ofL c).length ≤ 800) := Lib.hid (by have : (ofL c).length ≤ 8 * c.length := r4; omega)
    have HRt2 : Hid (rightB (ofL c) = true) := HRt
    have hc5 : c.length ≤ 100000 := by omega
    have HC5 := Lib.hid hc5
    clear hb hlen hc h8 r1 r2 r3 r4 HRt hc5
    go_enter Try.func6, Try.ntmps6
    go_wp2_with fail
    refine (of_any _ c w HY.out HA.out HC5.out).mono ?_
    rintro e w1 ⟨v1, rfl, ho1, hB1⟩
    have HO1 := Lib.hid ho1.spans
    have HY1 := Lib.hid (HY.out.on hB1)
    clear ho1
    generalize ofL c = l at *
    go_wp2_with fail
    go_loopw [6, 7] (fun n k wr => ∃ t : Nat, t ≤ 8 * len ∧ k = .int .i64 t ∧ n = .int .i64 (cntBits c t : Nat) ∧ cntBits c t ≤ t ∧ w1 = wr) (fun _ k _ => 8 * len - (intOf k).toNat)
    case atStart => exact ⟨0, by omega, rfl, rfl, Nat.le_refl _, rfl⟩
    case round =>
      obtain ⟨t, ht, rfl, rfl, hct, rfl⟩ := hrel
      by_cases hlt : t < 8 * len
      · have hk : t / 8 < len := by omega
        obtain ⟨b, off, hA, hcell⟩ : ∃ b off, A = some ⟨b, off, none⟩ ∧ ∀ j, j < c.length → w1.cell? ⟨b, off + j, none⟩ = some (.int .u8 (c[j]?.getD 0)) := by
          obtain ⟨A', c', e, _, _, hr⟩ := HY1.out
          cases e
          obtain ⟨b, off, e, _, h⟩ := hr (by rw [HN.out]; omega)
          exact ⟨b, off, e, h⟩
        subst hA
        have hcell := hcell (t / 8) (by rw [HN.out]; exact hk)
        have hb := HA.out.at_ (t / 8)
        have HS := Lib.hid (cntBits_succ c t)
        have HB : Hid (bt c t = bitN (c[t / 8]?.getD 0) (t % 8)) := Lib.hid rfl
        generalize c[t / 8]?.getD 0 = x at *
        have hi2 : (t : Int) < 8 * (len : Int) := by omega
        generalize cntBits c t = n at *
        have hq := bit_rem (k := t % 8) hb.1
        cases hbt : bt c t with
        | true =>
          rw [← HB.out, hbt] at hq
          rw [hbt] at HS
          clear hbt
          go_wp2_with fail
          go_roundw
          case rel => exact ⟨t + 1, by omega, by go_num, by rw [HS.out]; go_num, by rw [HS.out]; simp only [Bool.toNat_true]; omega, by first | rfl | trivial⟩
          case measure => simp [intOf]; omega
        | false =>
          rw [← HB.out, hbt] at hq
          rw [hbt] at HS
          clear hbt
          go_wp2_with fail
          go_roundw
          case rel => exact ⟨t + 1, by omega, by go_num, by rw [HS.out]; rfl, by rw [HS.out]; simp only [Bool.toNat_false]; omega, by first | rfl | trivial⟩
          case measure => simp [intOf]; omega
      · obtain rfl : t = 8 * len := by omega
        obtain ⟨a, ha⟩ : ∃ a, a = i % (8 * len + 1) := ⟨_, rfl⟩
        have ha2 : a ≤ 8 * len := by rw [ha]; have := Nat.mod_lt i (show 0 < 8 * len + 1 by omega); omega
        have t5 : (i : Int).tmod (8 * (len : Int) + 1) = (a : Int) := by
          rw [Int.tmod_eq_emod_of_nonneg (by omega), ha, Int.natCast_emod, show ((8 * len + 1 : Nat) : Int) = 8 * (len : Int) + 1 by omega]
        have HL2 : Hid (longL l = (cntBits c (8 * len) : Nat)) := Lib.hid (by rw [HL.out, HN.out])
        obtain ⟨I, hI⟩ : ∃ I, (decide (a < 8 * c.length) && bt c a) = I := ⟨_, rfl⟩
        have HI := Lib.hid hI
        have HH2 : Hid (hasL l ((a : Int), (a : Int) + 1) = I) := Lib.hid (by rw [HH.out]; exact hI)
        clear ha hI
        generalize cntBits c (8 * len) = n at *
        go_upto_region 11 with fail
        go_cut [9] (fun s9 wx => s9 = .bool I ∧ w1 = wx)
        case first =>
          by_cases hal : a < 8 * len
          · have hk : a / 8 < len := by omega
            obtain ⟨b, off, hA, hcell⟩ : ∃ b off, A = some ⟨b, off, none⟩ ∧ ∀ j, j < c.length → w1.cell? ⟨b, off + j, none⟩ = some (.int .u8 (c[j]?.getD 0)) := by
              obtain ⟨A', c', e, _, _, hr⟩ := HY1.out
              cases e
              obtain ⟨b, off, e, _, h⟩ := hr (by rw [HN.out]; omega)
              exact ⟨b, off, e, h⟩
            subst hA
            have hcell := hcell (a / 8) (by rw [HN.out]; exact hk)
            have hb := HA.out.at_ (a / 8)
            have HB : Hid (bitN (c[a / 8]?.getD 0) (a % 8) = I) := Lib.hid (by rw [← HI.out, decide_eq_true (by rw [HN.out]; exact hal), Bool.true_and]; rfl)
            generalize c[a / 8]?.getD 0 = x at *
            have hq := bit_rem (k := a % 8) hb.1
            rw [HB.out] at hq
            have hi2 : (a : Int) < 8 * (len : Int) := by omega
            go_wp2_with fail
            go_meet
            exact ⟨rfl, rfl⟩
          · have HE : Hid (false = I) := Lib.hid (by rw [← HI.out, decide_eq_false (by rw [HN.out]; exact hal), Bool.false_and])
            have hi2 : ¬ (a : Int) < 8 * (len : Int) := by omega
            go_wp2_with fail
            go_meet
            exact ⟨congrArg Value.bool HE.out, rfl⟩
        case rest =>
          obtain ⟨rfl, rfl⟩ := hcut
          go_wp2_with fail
          refine (known_any w1).mono ?_
          rintro e w2 ⟨rfl, hB2⟩
          go_wp2_with fail
          refine (right_any _ l w2 (HO1.out.on hB2) (by have := HLo.out; omega)).mono ?_
          rintro e w3 ⟨rfl, hB3⟩
          rw [HRt2.out]
          have hC3 := bseq hB2 hB3
          go_wp2_with fail
          refine (long_any _ l w3 (HO1.out.on hC3) HAo.out (by have := HLo.out; omega)).mono ?_
          rintro e w4 ⟨rfl, hB4⟩
          rw [HL2.out]
          have hC4 := bseq hC3 hB4
          have d1 : ((n : Int) == (n : Int)) = true := by simp
          go_wp2_with fail
          refine (has_any _ l a (a + 1) w4 (HO1.out.on hC4) HAo.out (by have := HLo.out; omega)).mono ?_
          rintro e w5 ⟨rfl, hB5⟩
          rw [HH2.out]
          have hC5 := bseq hC4 hB5
          go_wp2_with fail
          go_ret
          exact ⟨by simp, bseq hB1 hC5⟩

end Go.Proofs.Ytmjgpgibifceeaa
