/-
  Layer 7: the walk of ArenaBack.
-/
import Derived.Test.YthinhknfiaohlaaArBack
namespace Go.Proofs.Ythinhknfiaohlaa
open Go.RowKit Go.Deep

theorem arL_length (c : List Int) (n : Nat) : (arL c n).length = 1 + n % 5 := by unfold arL; rw [arTo_length]
theorem arL_all64 (c : List Int) (n : Nat) : All64 (sizesL (arL c n)) ∧ (sizesL (arL c n)).length ≤ 1000000000 := by
  have hfa := fits_all (arL_fits c n)
  refine ⟨fun x hx => ?_, by have := hfa.2.1; omega⟩
  have h3 := hfa.2.2.2.1 x hx
  have h4 : x ≤ (sizesL (arL c n)).sum := by
    have : ∀ m : List Int, (∀ s ∈ m, 0 ≤ s) → ∀ x ∈ m, x ≤ m.sum := by
      intro m hm x hx
      induction m with
      | nil => cases hx
      | cons y m ih =>
        rw [List.sum_cons]
        have p1 := hm y (List.mem_cons_self ..)
        have p2 := sum_nonneg (fun s hs => hm s (List.mem_cons_of_mem _ hs))
        rcases List.mem_cons.1 hx with rfl | hx
        · omega
        · have := ih (fun s hs => hm s (List.mem_cons_of_mem _ hs)) hx; omega
    exact this _ hfa.2.2.2.1 _ hx
  unfold In64
  have := hfa.2.2.2.2
  omega
set_option maxRecDepth 100000 in
set_option maxHeartbeats 2000000 in
theorem aback_walk {K : World → Prop} (T : ArenaOK K) (vc : Value) (c : List Int) (n sg at_ : Nat) (w : World)
    (hb : Bytes w w.heap.size vc c) (hc : AllB c) (hn : n < 256) (hsg : sg < 256) (hat : at_ < 256) (hK : K w) :
    Calls Try.prog 6 #[vc, .int .u8 n, .int .u8 sg, .int .u8 at_] w fun e w' => e = .returned (.bool true) ∧ Below w.heap.size w w' := by
  have HT := Lib.hid T
  have HK := Lib.hid hK
  have HB := Lib.hid hb
  have HC := Lib.hid hc
  have HN := Lib.hid hn
  have HX := Lib.hid (arL_sm hc n)
  have HF := Lib.hid (arL_fits c n)
  have HAl := Lib.hid (arL_all64 c n)
  obtain ⟨ls, hls⟩ : ∃ ls, arL c n = ls := ⟨_, rfl⟩
  have hlen : ls.length = 1 + n % 5 := by rw [← hls]; exact arL_length c n
  obtain ⟨M, hM, hM8, hM1000⟩ := genB_length c n
  have HGen := Lib.hid (fun w hb => gen_any vc c n w hb hc hn)
  rw [hls] at HX HF HAl hM HGen
  have HCut := Lib.hid (cut_of HX.out.2.2 HF.out)
  have HBa : Hid (AllB (bytesA ls) ∧ (bytesA ls).length ≤ 1000000000) := Lib.hid ⟨bytesA_all ls, by omega⟩
  have HM := Lib.hid hM
  have HMs : Hid ((M : Int) = 8 * (sizesL ls).sum) := Lib.hid (by rw [← hM]; exact bytesA_length ls)
  have HSa : Hid (sameA ls ls = true) := Lib.hid (decide_eq_true rfl)
  obtain ⟨len, hle⟩ : ∃ k, k = ls.length := ⟨_, rfl⟩
  have hl1 : 1 ≤ len := by omega
  have hl5 : len ≤ 5 := by omega
  have HLe := Lib.hid hle
  obtain ⟨q, hq⟩ : ∃ q, sg % len = q := ⟨_, rfl⟩
  have hq1 : q < len := by rw [← hq]; exact Nat.mod_lt _ (by omega)
  have m1 : ((sg : Int)).tmod (len : Int) = (q : Int) := by rw [← hq]; exact Int.ofNat_tmod sg len
  have m2 : ((sg : Int)) % (len : Int) = (q : Int) := by rw [← hq]; exact (Int.natCast_emod sg len).symm
  have l0 : (len : Int) ≠ 0 := by omega
  have q2 : (q : Int) < (len : Int) := by omega
  have HQ : Hid (q < ls.length) := Lib.hid (by rw [← hle]; exact hq1)
  obtain ⟨m, hm⟩ : ∃ m, m = (ls[q]?.getD []).length := ⟨_, rfl⟩
  have HMm := Lib.hid hm
  have hm13 : m ≤ 1000 := by
    have h1 := sizesL_le ls (q + 1)
    rw [sizesL_take HQ.out, List.sum_append, ← hm] at h1
    have h2 := (sizesL_le ls q).1
    have h3 := HMs.out
    simp at h1
    omega
  have HI : Hid (In64 q ∧ In64 0) := Lib.hid (by unfold In64; omega)
  clear T hK hc hn hls hlen hM hle hq hm
  obtain ⟨A3, c3, rfl, -⟩ := hb
  generalize c.length = n3 at *
  go_enter Try.func6, Try.ntmps6
  go_wp2_with fail
  refine (HGen.out w HB.out).mono ?_
  rintro e w1 ⟨x, rfl, ho, hB1⟩
  have HXv := Lib.hid ho.arV
  clear ho
  obtain ⟨A5, c5, rfl⟩ := HXv.out.form HLe.out.symm
  go_wp2_with fail
  refine (HT.out.sizes _ ls w1 HXv.out HX.out (HT.out.on HK.out hB1)).mono ?_
  rintro e w2 ⟨u, rfl, ho, hB2⟩
  have HQ2 := Lib.hid (bsq hB1 hB2)
  have HU2 := Lib.hid (OwnN.numS ho)
  have HR2 := Lib.hid hB2
  clear ho hB2
  go_wp2_with fail
  refine (HT.out.bytes _ ls w2 (HXv.out.on HR2.out) HX.out (HT.out.on HK.out HQ2.out)).mono ?_
  rintro e w3 ⟨y, rfl, ho, hB3⟩
  have HQ3 := Lib.hid (bsq HQ2.out hB3)
  have HR3 := Lib.hid (bsq HR2.out hB3)
  have HU3 := Lib.hid (HU2.out.on hB3)
  have HY3 := Lib.hid ho.bytes
  clear ho hB3
  obtain ⟨A4, c4, rfl⟩ := HY3.out.form HM.out
  go_wp2_with fail
  refine (HT.out.cut _ _ (sizesL ls) (bytesA ls) w3 HU3.out HAl.out.1 HAl.out.2 HY3.out HBa.out.1 HBa.out.2 (HT.out.on HK.out HQ3.out)).mono ?_
  rintro e w4 ⟨z, rfl, ho, hB4⟩
  rw [HCut.out.1]
  rw [HCut.out.2] at ho
  have HZ4 := Lib.hid ho.arV
  have HQ4 := Lib.hid (bsq HQ3.out hB4)
  have HR4 := Lib.hid (bsq HR3.out hB4)
  have HU4 := Lib.hid (HU3.out.on hB4)
  have HY4 := Lib.hid (HY3.out.on hB4)
  clear ho hB4 hB1
  obtain ⟨b, off, A1, c1, rfl, p1, _, -⟩ := below_cells HXv.out HR4.out rfl HQ.out
  rw [← HMm.out] at p1
  by_cases hm0 : m = 0
  · subst hm0
    have HPl : Hid (placeI (sizesL ls) q 0 = -1) := Lib.hid (by
      unfold placeI
      refine if_neg (fun e => ?_)
      have := of_decide_eq_true e.2
      rw [show ((q : Int)).toNat = q by simp, sizesL_get HQ.out, ← HMm.out] at this
      omega)
    go_wp2_with fail
    refine (known7_any HT.out w4 (HT.out.on HK.out HQ4.out)).mono ?_
    rintro e w5 ⟨rfl, hB5⟩
    have HQ5 := Lib.hid (bsq HQ4.out hB5)
    have HR5 := Lib.hid (bsq HR4.out hB5)
    clear p1
    go_wp2_with fail
    refine (HT.out.same _ _ ls ls w5 (HZ4.out.on hB5) (HXv.out.on HR5.out) HX.out HX.out (HT.out.on HK.out HQ5.out)).mono ?_
    rintro e w6 ⟨rfl, hB6⟩
    rw [HSa.out]
    have HQ6 := Lib.hid (bsq HQ5.out hB6)
    go_wp2_with fail
    refine (HT.out.place _ (sizesL ls) q 0 w6 ((HU4.out.on hB5).on hB6) HAl.out.1 HAl.out.2 HI.out.1 HI.out.2 (HT.out.on HK.out HQ6.out)).mono ?_
    rintro e w7 ⟨rfl, hB7⟩
    rw [HPl.out]
    have hQ7 := bsq HQ6.out hB7
    go_wp2_with fail
    go_ret
    exact ⟨rfl, hQ7⟩
  · obtain ⟨r, hr⟩ : ∃ r, at_ % m = r := ⟨_, rfl⟩
    have hr1 : r < m := by rw [← hr]; exact Nat.mod_lt _ (by omega)
    have k1 : ((at_ : Int)).tmod (m : Int) = (r : Int) := by rw [← hr]; exact Int.ofNat_tmod at_ m
    have k2 : ((at_ : Int)) % (m : Int) = (r : Int) := by rw [← hr]; exact (Int.natCast_emod at_ m).symm
    have k0 : (m : Int) ≠ 0 := by omega
    have km : ((m : Int) == 0) = false := by rw [beq_eq_false_iff_ne]; exact k0
    have r2 : (r : Int) < (m : Int) := by omega
    have HRm : Hid (r < (ls[q]?.getD []).length) := Lib.hid (by rw [← HMm.out]; exact hr1)
    obtain ⟨P, hP⟩ : ∃ P, ((sizesL ls).take q).sum.toNat + r = P := ⟨_, rfl⟩
    have hs0 := (sizesL_le ls q).1
    have HWa : Hid (wordAt (bytesA ls) P = (ls[q]?.getD [])[r]?.getD 0) := Lib.hid (by rw [← hP]; exact word_at HX.out.2.2 q r HQ.out HRm.out)
    have HPl : Hid (placeI (sizesL ls) q r = (P : Int)) := Lib.hid (by
      unfold placeI
      rw [if_pos ⟨HF.out, decide_eq_true ⟨by omega, by rw [sizesL_length]; have := HQ.out; omega, by omega, by omega, by rw [show ((q : Int)).toNat = q by simp, sizesL_get HQ.out]; have := HRm.out; omega, by rw [show ((q : Int)).toNat = q by simp, sizesL_get HQ.out]; have := HRm.out; omega⟩⟩, show ((q : Int)).toNat = q by simp]
      omega)
    have hPM : 8 * P + 8 ≤ M := by
      have h1 := sizesL_le ls (q + 1)
      rw [sizesL_take HQ.out, List.sum_append] at h1
      have h3 := HMs.out
      have h4 := HRm.out
      simp at h1
      omega
    have HIr : Hid (In64 (r : Int)) := Lib.hid (by unfold In64; omega)
    clear hr hP hs0
    go_wp2_with fail
    refine (HT.out.place _ (sizesL ls) q r w4 HU4.out HAl.out.1 HAl.out.2 HI.out.1 HIr.out (HT.out.on HK.out HQ4.out)).mono ?_
    rintro e w5 ⟨rfl, hB5⟩
    rw [HPl.out]
    have HQ5 := Lib.hid (bsq HQ4.out hB5)
    have HR5 := Lib.hid (bsq HR4.out hB5)
    have HY5 := Lib.hid (HY4.out.on hB5)
    have HZ5 := Lib.hid (HZ4.out.on hB5)
    have d1 : decide ((P : Int) < 0) = false := decide_eq_false (by omega)
    have d2 : decide ((M : Int) < 8 * (P : Int) + 8) = false := decide_eq_false (by omega)
    clear p1 hB5 m1 m2 k1 k2
    obtain ⟨sb, hsb⟩ : ∃ s, ((bytesA ls).drop (8 * P)).take 8 = s := ⟨_, rfl⟩
    have hsl : sb.length = 8 := by rw [← hsb, List.length_take, List.length_drop, HM.out]; omega
    have HSb : Hid (AllB sb) := Lib.hid (fun x hx => HBa.out.1 x (by rw [← hsb] at hx; exact List.mem_of_mem_drop (List.mem_of_mem_take hx)))
    have HWs : Hid (getV sb = (ls[q]?.getD [])[r]?.getD 0) := Lib.hid (by rw [← HWa.out, ← hsb]; rfl)
    have HSx : Hid (∀ s, s < 8 → (bytesA ls)[8 * P + s]?.getD 0 = sb[s]?.getD 0) := Lib.hid (fun s hs => by rw [← hsb, List.getElem?_take_of_lt hs, List.getElem?_drop])
    have HSl := Lib.hid hsl
    clear hsb hsl
    go_wp2_with fail
    go_loopw [17, 18] (fun v j wr => ∃ (s : Nat) (J : Int), s ≤ 8 ∧ J = (s : Int) - 1 ∧ j = .int .i64 J ∧ v = .int .u64 (getV (sb.drop s)) ∧ w5 = wr) (fun _ j _ => (intOf j + 1).toNat)
    case atStart => exact ⟨8, 7, by omega, by omega, rfl, by rw [List.drop_of_length_le (by rw [HSl.out]; omega)]; rfl, rfl⟩
    case round =>
      obtain ⟨s, J, hs8, hJ, rfl, rfl, rfl⟩ := hrel
      rcases s with _ | s
      · obtain rfl : J = -1 := by omega
        rw [List.drop_zero, HWs.out]
        clear hJ d1 d2
        obtain ⟨X, hX⟩ : ∃ X, (ls[q]?.getD [])[r]?.getD 0 = X := ⟨_, rfl⟩
        rw [hX]
        have HXx := Lib.hid hX
        clear hX
        go_wp2_with fail
        refine (known7_any HT.out w5 (HT.out.on HK.out HQ5.out)).mono ?_
        rintro e w6 ⟨rfl, hB6⟩
        have HQ6 := Lib.hid (bsq HQ5.out hB6)
        have HR6 := Lib.hid (bsq HR5.out hB6)
        go_wp2_with fail
        refine (HT.out.same _ _ ls ls w6 (HZ5.out.on hB6) (HXv.out.on HR6.out) HX.out HX.out (HT.out.on HK.out HQ6.out)).mono ?_
        rintro e w7 ⟨rfl, hB7⟩
        rw [HSa.out]
        have HQ7 := Lib.hid (bsq HQ6.out hB7)
        have HR7 := Lib.hid (bsq HR6.out hB7)
        obtain ⟨b', off', A1', c1', e0, p1, _, hin⟩ := below_cells HXv.out HR7.out rfl HQ.out
        cases e0
        obtain ⟨g1, off1, rfl, p2⟩ := hin r HRm.out
        rw [← HMm.out] at p1
        rw [HXx.out] at p2
        have dX : (X == X) = true := by simp
        clear hin hB6 hB7
        go_wp2_with fail
        refine (HT.out.words _ ls w7 (HXv.out.on HR7.out) HX.out (HT.out.on HK.out HQ7.out)).mono ?_
        rintro e w8 ⟨rfl, hB8⟩
        have hQ8 := bsq HQ7.out hB8
        have hS0 := HMs.out
        obtain ⟨S, hS⟩ : ∃ S, (sizesL ls).sum = S := ⟨_, rfl⟩
        rw [hS] at hS0 ⊢
        have hw8 : IntKind.i64.wrap (8 * S) = 8 * S := IntWalk.i64_in _ (by omega)
        have dM : ((M : Int) == 8 * S) = true := by rw [beq_iff_eq]; exact hS0
        clear hS hS0 p1 p2
        go_wp2_with fail
        go_ret
        exact ⟨rfl, hQ8⟩
      · obtain rfl : J = (s : Int) := by omega
        obtain ⟨A', c', e', _, _, hr'⟩ := HY5.out
        rw [HM.out] at e' hr'
        cases e'
        obtain ⟨b2, off2, ea, _, hcell⟩ := hr' (by omega)
        subst ea
        have p1 := hcell (8 * P + s) (by omega)
        rw [HSx.out s (by omega)] at p1
        have hx := HSb.out.at_ s
        have HE : Hid (getV (sb.drop s) = 256 * getV (sb.drop (s + 1)) + sb[s]?.getD 0) := Lib.hid (getV_drop (by rw [HSl.out]; omega))
        have hW0 : 0 ≤ getV (sb.drop (s + 1)) := getV_nonneg (fun x hx => HSb.out x (List.mem_of_mem_drop hx))
        have hW1 : getV (sb.drop (s + 1)) < 72057594037927936 := getV_lt7 (fun x hx => HSb.out x (List.mem_of_mem_drop hx)) (by rw [List.length_drop, HSl.out]; omega)
        obtain ⟨W, hW⟩ : ∃ W, getV (sb.drop (s + 1)) = W := ⟨_, rfl⟩
        obtain ⟨X, hX⟩ : ∃ X, sb[s]?.getD 0 = X := ⟨_, rfl⟩
        rw [hW] at hW0 hW1 HE ⊢
        rw [hX] at hx HE p1
        have i1 : (8 * (P : Int) + (s : Int)) < (M : Int) := by omega
        have i0 : (0 : Int) ≤ 8 * (P : Int) + (s : Int) := by omega
        clear hcell hr' hW hX hJ d1 d2
        go_wp2_with fail
        go_roundw
        case rel => exact ⟨s, (s : Int) - 1, by omega, rfl, rfl, by rw [HE.out], trivial⟩
        case measure => simp [intOf]

end Go.Proofs.Ythinhknfiaohlaa
