/-
  Layer 7: the walk of ArenaMost.
-/
import Derived.Test.YthinhknfiaohlaaArMost
import Derived.Test.YthinhknfiaohlaaBytesRow
import Derived.Deep.DeepCutAuto
import Derived.Deep.CutBlock
namespace Go.Proofs.Ythinhknfiaohlaa
open Go.RowKit Go.Deep

set_option maxRecDepth 100000 in
set_option maxHeartbeats 1000000 in
theorem amost_walk {K : World → Prop} (T : ArenaOK K) (n m : Nat) (w : World) (hn : n < 256) (hm : m < 65536) (hK : K w) :
    Calls Try.prog 9 #[.int .u8 n, .int .u16 m] w fun e w' => e = .returned (.bool true) ∧ Below w.heap.size w w' := by
  have HT := Lib.hid T
  have HK := Lib.hid hK
  obtain ⟨k, hk⟩ : ∃ k : Nat, k = n % 20 := ⟨_, rfl⟩
  have hk20 : k < 20 := by omega
  have HKn : Hid ((n : Int) % 20 = (k : Int)) := Lib.hid (by omega)
  obtain ⟨q, hq⟩ : ∃ q : Nat, q = m % 5000 := ⟨_, rfl⟩
  have hq5 : q < 5000 := by omega
  have HQm : Hid ((m : Int) % 5000 = (q : Int)) := Lib.hid (by omega)
  obtain ⟨A, hA⟩ : ∃ A : Nat, A = (if k = 0 then 0 else 1 + q) := ⟨_, rfl⟩
  have HA : Hid ((mostS k q).sum = (A : Int)) := Lib.hid (by rw [mostS_all, hA])
  have hA5 : A ≤ 5000 := by rw [hA]; split <;> omega
  have HS64 := Lib.hid (mostS_64 (k := k) (q := q) (by omega))
  have HZm := Lib.hid (zeroA_sm (k := k) (q := q) (by omega) (by omega))
  have hmk := run_make_row' (P := Try.prog) 31 3 (.int .i64 0) 8 Try.underlying31 Try.info3 rfl .i64 .i64 k (by omega) (by omega)
  have HMk := Lib.hid hmk
  clear T hK hk hq hmk
  go_enter Try.func9, Try.ntmps9
  go_upto_region 1 with fail
  go_cut [5] (fun s5 wx => s5 = .int .i64 k ∧ w = wx)
  case first =>
    go_wp2_with fail
    go_meet
    exact ⟨congrArg (Value.int .i64) HKn.out, rfl⟩
  case rest =>
  obtain ⟨rfl, rfl⟩ := hcut
  go_upto_region 2 with fail
  go_cut [6] (fun s6 wx => s6 = .slice (some ⟨w.heap.size, 0, none⟩) k k ∧ wx.rowIs w.heap.size 3 k (fun _ => .int .i64 0) ∧ Below w.heap.size w wx)
  case first =>
    have hmk := HMk.out
    go_wp2_with fail
    go_meet
    exact ⟨rfl, World.rowIs_made w (.int .i64 0) k 3, (Below.refl _ _).alloc (Nat.le_refl _) _⟩
  case rest =>
  obtain ⟨rfl, hrow, hB2⟩ := hcut
  generalize wc = w2 at *
  have HRow := Lib.hid hrow
  have HB2 := Lib.hid hB2
  clear hrow hB2
  go_upto_if 20 with fail
  go_cut [6] (fun s6 wx => s6 = .slice (some ⟨w.heap.size, 0, none⟩) k k ∧ wx.rowIs w.heap.size 3 k (fun i => .int .i64 ((mostS k q)[i]?.getD 0)) ∧ Below w.heap.size w wx)
  case first =>
    rcases k with _ | k1
    · go_wp2_with fail
      go_meet
      exact ⟨rfl, HRow.out.congr (fun i hi => by omega), HB2.out⟩
    · have c0 := HRow.out.cell (i := 0) (by omega)
      have f0 := HRow.out.frozen 0
      have hr1 := HRow.out.set 0 (.int .i64 1)
      have c1 := hr1.cell (i := k1) (by omega)
      have f1 := hr1.frozen k1
      have d0 : decide ((0 : Int) < ((k1 + 1 : Nat) : Int)) = true := decide_eq_true (by omega)
      obtain ⟨v0, hv0⟩ : ∃ v0 : Nat, v0 = (if k1 = 0 then 1 else 0) := ⟨_, rfl⟩
      have hv1 : v0 ≤ 1 := by rw [hv0]; split <;> omega
      have e1 : (if k1 = 0 then Value.int .i64 1 else Value.int .i64 0) = Value.int .i64 (v0 : Int) := by rw [hv0]; split <;> rfl
      rw [e1] at c1
      have HR1 := Lib.hid hr1
      have HV0 := Lib.hid hv0
      clear hr1 e1 hv0
      go_wp2_with fail
      go_meet
      refine ⟨rfl, (HR1.out.set k1 _).congr (fun i hi => ?_), (HB2.out.setCell (p := ⟨w.heap.size, 0, none⟩) (Nat.le_refl _) _).setCell (p := ⟨w.heap.size, k1, none⟩) (Nat.le_refl _) _⟩
      rw [mostS_get hi]
      unfold mostV
      rw [HQm.out]
      by_cases i1 : i = k1
      · subst i1
        rw [if_pos rfl, if_pos rfl, HV0.out]
        simp
      · rw [if_neg i1, if_neg (show ¬ i + 1 = k1 + 1 by omega)]
        by_cases i0 : i = 0
        · rw [if_pos i0, if_pos i0]; rfl
        · rw [if_neg i0, if_neg i0]; rfl
  case rest =>
  obtain ⟨rfl, hrow, hB3⟩ := hcut
  generalize wc = w3 at *
  have HR3 := Lib.hid hrow
  have HN3 := Lib.hid (row_num hrow (mostS_length k q) (by omega))
  have HB3 := Lib.hid hB3
  clear hrow hB3
  go_wp2_with fail
  go_loopw [7, 8] (fun s i wr => ∃ t : Nat, t ≤ k ∧ i = .int .i64 t ∧ s = .int .i64 ((mostS k q).take t).sum ∧ w3 = wr) (fun _ i _ => k - (intOf i).toNat)
  case atStart => exact ⟨0, by omega, rfl, by simp, rfl⟩
  case round =>
    obtain ⟨t, ht, rfl, rfl, rfl⟩ := hrel
    by_cases hlt : t < k
    · have p1 := HR3.out.cell hlt
      have HE : Hid (((mostS k q).take (t + 1)).sum = ((mostS k q).take t).sum + (mostS k q)[t]?.getD 0) := Lib.hid (sum_take_succ (by rw [mostS_length]; exact hlt))
      have hy : (mostS k q)[t]?.getD 0 = ((mostV k q t : Nat) : Int) := mostS_get hlt
      have hv := mostV_le k q t
      have hs := mostS_sum k q t (by omega)
      obtain ⟨S, hS⟩ : ∃ S, ((mostS k q).take t).sum = S := ⟨_, rfl⟩
      have hsb : 0 ≤ S ∧ S ≤ 10000 := by rw [← hS, hs]; split <;> (try split) <;> omega
      rw [hy] at p1 HE
      rw [hS] at HE ⊢
      generalize mostV k q t = z at *
      clear hs hS hy
      go_wp2_with fail
      go_roundw
      case rel => exact ⟨t + 1, by omega, by go_num, by rw [HE.out], trivial⟩
      case measure => simp [intOf]; omega
    · obtain rfl : t = k := by omega
      rw [show (mostS t q).take t = mostS t q by rw [List.take_of_length_le (by rw [mostS_length]; omega)], HA.out]
      clear ht hlt
      go_wp2_with fail
      go_loopw [9, 10] (fun o i wr => ∃ s : Nat, s ≤ t ∧ i = .int .i64 s ∧ OwnA wr w3.heap.size o (zeroA t q s) ∧ Below w3.heap.size w3 wr) (fun _ i _ => t - (intOf i).toNat)
      case atStart => exact ⟨0, by omega, rfl, OwnA.nil _ _, Below.refl _ _⟩
      case round =>
        obtain ⟨s, hs, rfl, ho, hB⟩ := hrel
        generalize wr = w4 at *
        have HO := Lib.hid ho
        have HBw := Lib.hid hB
        clear ho hB
        by_cases hlt : s < t
        · have hrw := HR3.out.of_block (HBw.out.block _ HR3.out.lt)
          have p1 := hrw.cell hlt
          have hy : (mostS t q)[s]?.getD 0 = ((mostV t q s : Nat) : Int) := mostS_get hlt
          have hv := mostV_le t q s
          rw [hy] at p1
          have HE : Hid (zeroA t q (s + 1) = zeroA t q s ++ [List.replicate (mostV t q s) (0 : Int)]) := Lib.hid (zeroA_succ t q s)
          generalize mostV t q s = z at *
          have hmk := run_make_row' (P := Try.prog) 42 44 (.int .u64 0) 8 Try.underlying42 Try.info44 rfl .i64 .i64 z (by omega) (by omega)
          have hBm := HBw.out.alloc HBw.out.size (.cells (madeCells #[Value.int .u64 0] z) 44)
          have hOm := HO.out.on ((Below.refl _ _).alloc (Nat.le_refl _) (.cells (madeCells #[Value.int .u64 0] z) 44))
          obtain ⟨v', w', hrun, ho', hg'⟩ := append_seg (w4.alloc (.cells (madeCells #[Value.int .u64 0] z) 44)) w3.heap.size 23 u9 (.slice (some ⟨w4.heap.size, 0, none⟩) z z) (zeroA t q s) (List.replicate z 0) hOm (own_madeU w4 z w3.heap.size HBw.out.size (by omega)) (by rw [zeroA_length]; omega) hBm.size
          rw [World.size_alloc] at hrun
          have HRun := Lib.hid hrun
          have HR : Hid (OwnA w' w3.heap.size v' (zeroA t q (s + 1)) ∧ Below w3.heap.size w3 w') := Lib.hid ⟨by rw [HE.out]; exact ho', (hBm.alloc hBm.size _).grown hg' (by have := hBm.size; simp at this ⊢; omega) (fun k e => by
            obtain ⟨vs, _, h2, _⟩ := hOm
            exact (World.ownsRow.lt h2 k e).1)⟩
          clear hrun ho' hg' hOm hBm hrw hy
          go_wp2_with (at_builtin; refine Lib.wpList_append_run _ rfl _ _ _ _ rfl _ _ rfl rfl _ _ HRun.out ?_)
          go_roundw
          case rel => exact ⟨s + 1, by omega, by go_num, HR.out.1, HR.out.2⟩
          case measure => simp [intOf]; omega
        · obtain rfl : s = t := by omega
          have hF : fitsL (mostS s q) = decide (1 ≤ s ∧ s ≤ 16 ∧ 1 + q ≤ 4096) := mostS_fits s q
          have HZs : Hid (fitsL (sizesL (zeroA s q s)) = fitsL (mostS s q)) := Lib.hid (by rw [zeroA_sizes])
          have HCu := Lib.hid (most_cut s q A HA.out.symm)
          have HNo : Hid (fitsL [0, 1] = false ∧ All64 [0, 1]) := Lib.hid ⟨by decide, by intro x hx; simp at hx; unfold In64; omega⟩
          have HZ8 : Hid (AllB (List.replicate (8 * A) (0 : Int)) ∧ (List.replicate (8 * A) (0 : Int)).length ≤ 1000000000) := Lib.hid ⟨zero_bytes _, by rw [List.length_replicate]; omega⟩
          have hmb := run_make_row' (P := Try.prog) 24 5 (.int .u8 0) 1 Try.underlying24 Try.info5 rfl .i64 .i64 (8 * A) (by omega) (by omega)
          rw [show ((8 * A : Nat) : Int) = 8 * (A : Int) by omega] at hmb
          have HSl : Hid ((mostS s q).length ≤ 1000000000) := Lib.hid (by rw [mostS_length]; omega)
          have HSn : Hid (sameN (mostS s q) (mostS s q) = true) := Lib.hid (decide_eq_true rfl)
          have HQ4 := Lib.hid (bsq HB3.out HBw.out)
          have HN4 := Lib.hid (HN3.out.on HBw.out)
          have HAr4 := Lib.hid HO.out.arV
          have hfin : decide ((s : Int) < (s : Int)) = false := by simp
          rcases (show ((s : Int) < 1 ∧ fitsL (mostS s q) = false) ∨ ((1 : Int) ≤ (s : Int) ∧ (16 : Int) < (s : Int) ∧ fitsL (mostS s q) = false) ∨ ((1 : Int) ≤ (s : Int) ∧ (s : Int) ≤ 16 ∧ (4096 : Int) < (A : Int) ∧ fitsL (mostS s q) = false) ∨ ((1 : Int) ≤ (s : Int) ∧ (s : Int) ≤ 16 ∧ (A : Int) ≤ 4096 ∧ fitsL (mostS s q) = true) by
            rw [hF]
            rcases (show s < 1 ∨ 16 < s ∨ (1 ≤ s ∧ s ≤ 16) by omega) with h | h | h
            · exact .inl ⟨by omega, decide_eq_false (by omega)⟩
            · exact .inr (.inl ⟨by omega, by omega, decide_eq_false (by omega)⟩)
            · rw [if_neg (by omega)] at hA
              by_cases h2 : 1 + q ≤ 4096
              · exact .inr (.inr (.inr ⟨by omega, by omega, by omega, decide_eq_true ⟨h.1, h.2, h2⟩⟩))
              · exact .inr (.inr (.inl ⟨by omega, by omega, by omega, decide_eq_false (by omega)⟩))) with ⟨a1, hf⟩ | ⟨a1, a2, hf⟩ | ⟨a1, a2, a3, hf⟩ | ⟨a1, a2, a3, hf⟩
          all_goals
            have HFf := Lib.hid hf
            clear hF hf hA hs hlt
            go_wp2_with fail
            have hBt := (RowB.made w4 (8 * A)).whole (M := 8 * A) (by simp) (by omega)
            have hBa : Below w4.heap.size w4 (w4.alloc (.cells (madeCells #[Value.int .u8 0] (8 * A)) 5)) := (Below.refl _ _).alloc (Nat.le_refl _) _
            have HBt := Lib.hid hBt
            have HBa := Lib.hid hBa
            have HQ5 := Lib.hid (bsq HQ4.out hBa)
            have HN5 := Lib.hid (HN4.out.on hBa)
            clear hBt hBa hmb
            refine (HT.out.cut _ _ (mostS s q) (List.replicate (8 * A) 0) _ HN5.out HS64.out HSl.out HBt.out HZ8.out.1 HZ8.out.2 (HT.out.on HK.out HQ5.out)).mono ?_
            rintro e w6 ⟨z, rfl, ho, hB6⟩
            rw [HCu.out, HFf.out]
            have HQ6 := Lib.hid (bsq HQ5.out hB6)
            have HR6 := Lib.hid (bsq HBa.out hB6)
            clear ho hB6
            go_wp2_with fail
            refine (known7_any HT.out w6 (HT.out.on HK.out HQ6.out)).mono ?_
            rintro e w7 ⟨rfl, hB7⟩
            have HQ7 := Lib.hid (bsq HQ6.out hB7)
            have HR7 := Lib.hid (bsq HR6.out hB7)
            go_wp2_with fail
            refine (HT.out.fits _ (mostS s q) w7 (HN4.out.on HR7.out) HS64.out HSl.out (HT.out.on HK.out HQ7.out)).mono ?_
            rintro e w8 ⟨rfl, hB8⟩
            rw [HFf.out]
            have HQ8 := Lib.hid (bsq HQ7.out hB8)
            have HR8 := Lib.hid (bsq HR7.out hB8)
            go_wp2_with fail
            refine (HT.out.right _ (zeroA s q s) w8 (HAr4.out.on HR8.out) HZm.out (HT.out.on HK.out HQ8.out)).mono ?_
            rintro e w9 ⟨rfl, hB9⟩
            rw [HZs.out, HFf.out]
            have HQ9 := Lib.hid (bsq HQ8.out hB9)
            have HR9 := Lib.hid (bsq HR8.out hB9)
            clear hB7 hB8 hB9
            go_wp2_with fail
            refine (HT.out.sizes _ (zeroA s q s) w9 (HAr4.out.on HR9.out) HZm.out (HT.out.on HK.out HQ9.out)).mono ?_
            rintro e wA ⟨u, rfl, ho, hBA⟩
            rw [zeroA_sizes] at ho
            have HQA := Lib.hid (bsq HQ9.out hBA)
            have HRA := Lib.hid (bsq HR9.out hBA)
            have HUA := Lib.hid (OwnN.numS ho)
            clear ho hBA
            go_wp2_with fail
            refine (rsame_any _ _ (mostS s q) (mostS s q) _ _ wA HUA.out (HN4.out.on HRA.out) (by have := HSl.out; omega)).mono ?_
            rintro e wB ⟨rfl, hBB⟩
            rw [HSn.out]
            have HQB := Lib.hid (bsq HQA.out hBB)
            clear hBB
            go_wp2_with fail
            have hN := num_new .i64 wB [0, 1] 3 2 rfl (by omega)
            have HNN := Lib.hid (hN.more (B' := (wB.alloc (.cells ([0, 1].map (Value.int .i64)).toArray 3)).heap.size) (by simp))
            have HCN := Lib.hid (bsq HQB.out ((Below.refl _ _).alloc (Nat.le_refl _) (.cells ([0, 1].map (Value.int .i64)).toArray 3)))
            clear hN
            refine (HT.out.fits _ [0, 1] _ HNN.out HNo.out.2 (by decide) (HT.out.on HK.out HCN.out)).mono ?_
            rintro e wC ⟨rfl, hBC⟩
            rw [HNo.out.1]
            have hQC := bsq HCN.out hBC
            go_wp2_with fail
            go_ret
            exact ⟨by first | rfl | (show Ending.returned (.bool (!decide ((A : Int) ≤ 4096))) = _; rw [decide_eq_false (by omega)]; rfl), hQC⟩

end Go.Proofs.Ythinhknfiaohlaa
