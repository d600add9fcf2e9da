/-
  Layer 7: the walk of ArenaWithin.
-/
import Derived.Test.YthinhknfiaohlaaArLawsA
import Derived.Test.YthinhknfiaohlaaArGenB
import Derived.Deep.DeepCutAuto
import Derived.Deep.CutBlock
namespace Go.Proofs.Ythinhknfiaohlaa
open Go.RowKit Go.Deep

/-- the arena of choices may be -/
theorem arL_fits (c : List Int) (n : Nat) : fitsL (sizesL (arL c n)) = true := by
  have hl : (sizesL (arL c n)).length = 1 + n % 5 := by rw [sizesL_length]; unfold arL; rw [arTo_length]
  have h2 : (sizesL (arL c n)).sum = startC c (1 + n % 5) := arTo_sum c _
  have h4 := startC_bd c (1 + n % 5)
  have h0 : (sizesL (arL c n))[0]?.getD 0 = (szC c 0 : Int) := by
    rw [sizesL_get (by rw [← sizesL_length, hl]; omega)]
    unfold arL arTo
    rw [List.getElem?_map, List.getElem?_range (by omega)]
    show ((segC c 0).length : Int) = _
    unfold segC
    rw [segTo_length]
  have h1 : 1 ≤ szC c 0 := by
    unfold szC
    rw [if_pos (rfl : (0 : Nat) = 0)]
    omega
  exact decide_eq_true ⟨by omega, by omega, by rw [h0]; omega, sizesL_pos _, by rw [h2]; omega⟩
theorem within_next {l : List Int} {g a : Int} {t : Nat} (hf : fitsL l = true) (h : withinB l g a t = true) : decide (0 ≤ placeI l g (a + t)) = withinB l g a (t + 1 : Nat) := by
  obtain ⟨w1, w2, w3, w4, w5, w6⟩ : 0 ≤ g ∧ g < l.length ∧ 0 ≤ a ∧ (0 : Int) ≤ t ∧ a ≤ l[g.toNat]?.getD 0 ∧ (t : Int) ≤ l[g.toNat]?.getD 0 - a := of_decide_eq_true h
  by_cases hb : ((t + 1 : Nat) : Int) ≤ l[g.toNat]?.getD 0 - a
  · have h1 : withinB l g (a + t) 1 = true := decide_eq_true ⟨w1, w2, by omega, by omega, by omega, by omega⟩
    have h2 : withinB l g a (t + 1 : Nat) = true := decide_eq_true ⟨w1, w2, w3, by omega, w5, hb⟩
    rw [h2]
    refine decide_eq_true ?_
    unfold placeI
    rw [if_pos ⟨hf, h1⟩]
    have := (fits_take hf g.toNat).1
    omega
  · have h1 : withinB l g (a + t) 1 = false := decide_eq_false (fun ⟨_, _, _, _, _, e⟩ => by omega)
    have h2 : withinB l g a (t + 1 : Nat) = false := decide_eq_false (fun ⟨_, _, _, _, _, e⟩ => hb e)
    rw [h2]
    refine decide_eq_false ?_
    unfold placeI
    rw [if_neg (fun e => by rw [h1] at e; cases e.2)]
    omega
theorem within_less {l : List Int} {g a : Int} {t : Nat} (h : withinB l g a t = false) : withinB l g a (t + 1 : Nat) = false := by
  rw [← Bool.not_eq_true] at h ⊢
  intro e
  obtain ⟨w1, w2, w3, w4, w5, w6⟩ : 0 ≤ g ∧ g < l.length ∧ 0 ≤ a ∧ (0 : Int) ≤ (t + 1 : Nat) ∧ a ≤ l[g.toNat]?.getD 0 ∧ ((t + 1 : Nat) : Int) ≤ l[g.toNat]?.getD 0 - a := of_decide_eq_true e
  exact h (decide_eq_true ⟨w1, w2, w3, by omega, w5, by omega⟩)
set_option maxRecDepth 100000 in
set_option maxHeartbeats 2000000 in
theorem awithin_walk {K : World → Prop} (T : ArenaOK K) (vc : Value) (c : List Int) (a m : Int) (n sg : Nat) (w : World)
    (hb : Bytes w w.heap.size vc c) (hc : AllB c) (hn : n < 256) (a0 : -128 ≤ a) (a1 : a ≤ 127) (m0 : -128 ≤ m) (m1 : m ≤ 127) (hK : K w) :
    Calls Try.prog 7 #[vc, .int .u8 n, .int .u8 sg, .int .i8 a, .int .i8 m] w fun e w' => e = .returned (.bool true) ∧ Below w.heap.size w w' := by
  have HT := Lib.hid T
  have HK := Lib.hid hK
  have HB := Lib.hid hb
  have HC := Lib.hid hc
  have HN := Lib.hid hn
  have HX := Lib.hid (arL_sm hc n)
  have HF := Lib.hid (arL_fits c n)
  have HXn : Hid ((arL c n).length ≤ 1000000000000) := Lib.hid (by have := (arL_sm hc n).1; omega)
  obtain ⟨S, hS⟩ : ∃ S, sizesL (arL c n) = S := ⟨_, rfl⟩
  have HSe := Lib.hid hS
  have HF' : Hid (fitsL S = true) := Lib.hid (by rw [← hS]; exact HF.out)
  have hfa := fits_all HF'.out
  have HAl : Hid (All64 S ∧ S.length ≤ 1000000000) := Lib.hid ⟨fun x hx => by
    have h3 := hfa.2.2.2.1 x hx
    have h4 : x ≤ S.sum := by
      have : ∀ m : List Int, (∀ s ∈ m, 0 ≤ s) → ∀ x ∈ m, x ≤ m.sum := by
        intro m hm x hx
        induction m with
        | nil => cases hx
        | cons y m ih =>
          rw [List.sum_cons]
          have p1 := hm y (List.mem_cons_self ..)
          have p2 := sum_nonneg (fun s hs => hm s (List.mem_cons_of_mem _ hs))
          rcases List.mem_cons.1 hx with rfl | hx
          · omega
          · have := ih (fun s hs => hm s (List.mem_cons_of_mem _ hs)) hx; omega
      exact this _ hfa.2.2.2.1 _ hx
    unfold In64
    have := hfa.2.2.2.2
    omega, by have := hfa.2.1; omega⟩
  obtain ⟨g, hg⟩ : ∃ g : Int, g = (sg : Int) % 6 := ⟨_, rfl⟩
  have g0 : 0 ≤ g := by omega
  have g5 : g ≤ 5 := by omega
  have HIn : Hid (In64 g ∧ In64 a ∧ In64 m) := Lib.hid (by unfold In64; omega)
  obtain ⟨Wi, hWi⟩ : ∃ b, withinB S g a m = b := ⟨_, rfl⟩
  have HWi := Lib.hid hWi
  obtain ⟨len, hlen⟩ : ∃ k, k = S.length := ⟨_, rfl⟩
  have HLe := Lib.hid hlen
  have hlen1 : 1 ≤ len := by rw [hlen]; exact hfa.1
  have hlen16 : len ≤ 16 := by rw [hlen]; exact hfa.2.1
  rw [hg] at g0 g5 HWi HIn
  have HG := Lib.hid hg
  clear T hK hc hS hfa hWi hlen hg
  obtain ⟨A3, c3, rfl, -⟩ := hb
  generalize c.length = n3 at *
  go_enter Try.func7, Try.ntmps7
  go_wp2_with fail
  refine (gen_any _ c n w HB.out HC.out HN.out).mono ?_
  rintro e w1 ⟨x, rfl, ho, hB1⟩
  have HXv := Lib.hid ho.arV
  clear ho
  go_wp2_with fail
  refine (rsizes_any _ (arL c n) w1 HXv.out HXn.out).mono ?_
  rintro e w2 ⟨u, rfl, ho, hB2⟩
  have hC2 := bsq hB1 hB2
  have hnum := OwnN.numS ho
  rw [HSe.out] at hnum
  have HNu := Lib.hid hnum
  obtain ⟨A4, c4, rfl⟩ := hnum.form HLe.out.symm
  clear ho hnum
  go_wp2_with fail
  refine (HT.out.within _ S _ a m w2 HNu.out HAl.out.1 HAl.out.2 HIn.out.1 HIn.out.2.1 HIn.out.2.2 (HT.out.on HK.out hC2)).mono ?_
  rintro e w3 ⟨rfl, hB3⟩
  have hC3 := bsq hC2 hB3
  have HN3 := Lib.hid (HNu.out.on hB3)
  rw [HWi.out]
  have hM : ∀ t : Nat, (t : Int) = m ∨ m < 0 → (decide (0 ≤ m) && withinB S ((sg : Int) % 6) a t) = Wi := fun t ht => by
    rw [← HWi.out]
    rcases ht with rfl | ht
    · rw [decide_eq_true (by omega), Bool.true_and]
    · rw [decide_eq_false (by omega), Bool.false_and]
      exact (decide_eq_false (fun ⟨_, _, _, e, _, _⟩ => by omega)).symm
  have HM := Lib.hid hM
  have HW0 : Hid ((decide (0 ≤ m) && withinB S ((sg : Int) % 6) a (0 : Nat)) = (decide (0 ≤ m) && decide ((sg : Int) % 6 < (len : Int) ∧ 0 ≤ a ∧ a ≤ S[((sg : Int) % 6).toNat]?.getD 0))) := Lib.hid (by
    congr 1
    unfold withinB
    rw [HLe.out]
    congr 1
    refine propext ⟨fun ⟨_, e2, e3, _, e5, _⟩ => ⟨e2, e3, e5⟩, fun ⟨e2, e3, e5⟩ => ⟨g0, e2, e3, by omega, e5, by omega⟩⟩)
  obtain ⟨Z, hZ⟩ : ∃ Z, (decide (0 ≤ m) && withinB S ((sg : Int) % 6) a (0 : Nat)) = Z := ⟨_, rfl⟩
  have HZ := Lib.hid hZ
  rw [hZ] at HW0
  clear hM hZ
  go_upto_region 3 with fail
  go_cut [13] (fun s13 wx => s13 = .bool Z ∧ w3 = wx)
  case first =>
    by_cases h1 : (sg : Int) % 6 < (len : Int)
    · have d1 : decide ((sg : Int) % 6 < (len : Int)) = true := decide_eq_true h1
      by_cases h2 : 0 ≤ m
      · have d2 : decide (0 ≤ m) = true := decide_eq_true h2
        by_cases h3 : 0 ≤ a
        · have d3 : decide (0 ≤ a) = true := decide_eq_true h3
          obtain ⟨A', c', e', _, _, hr⟩ := HN3.out
          rw [← HLe.out] at e' hr
          cases e'
          obtain ⟨b, off, ea, _, hcell⟩ := hr (by omega)
          subst ea
          have p1 := hcell ((sg : Int) % 6).toNat (by omega)
          have hy := HAl.out.1.at_ ((sg : Int) % 6).toNat
          obtain ⟨y, hye⟩ : ∃ y, S[((sg : Int) % 6).toNat]?.getD 0 = y := ⟨_, rfl⟩
          rw [hye] at p1 hy HW0
          unfold In64 at hy
          rw [show ((sg : Int) % 6).toNat = sg % 6 by omega] at p1
          have hmin : min ((sg : Int) % 6) ((len : Int) - 1) = (sg : Int) % 6 := by omega
          clear hr hcell hye
          by_cases h4 : a ≤ y
          · have d4 : decide (a ≤ y) = true := decide_eq_true h4
            have HZ5 : Hid (true = Z) := Lib.hid (by rw [HW0.out, d2]; simp [h1, h3, h4])
            go_wp2_with fail
            go_meet
            exact ⟨congrArg Value.bool HZ5.out, rfl⟩
          · have d4 : decide (a ≤ y) = false := decide_eq_false h4
            have HZ5 : Hid (false = Z) := Lib.hid (by rw [HW0.out, d2]; simp [h4])
            go_wp2_with fail
            go_meet
            exact ⟨congrArg Value.bool HZ5.out, rfl⟩
        · have d3 : decide (0 ≤ a) = false := decide_eq_false h3
          have HZ5 : Hid (false = Z) := Lib.hid (by rw [HW0.out]; simp [h3])
          go_wp2_with fail
          go_meet
          exact ⟨congrArg Value.bool HZ5.out, rfl⟩
      · have d2 : decide (0 ≤ m) = false := decide_eq_false h2
        have HZ5 : Hid (false = Z) := Lib.hid (by rw [HW0.out]; simp [h2])
        go_wp2_with fail
        go_meet
        exact ⟨congrArg Value.bool HZ5.out, rfl⟩
    · have d1 : decide ((sg : Int) % 6 < (len : Int)) = false := decide_eq_false h1
      have HZ5 : Hid (false = Z) := Lib.hid (by rw [HW0.out]; simp [h1])
      go_wp2_with fail
      go_meet
      exact ⟨congrArg Value.bool HZ5.out, rfl⟩
  case rest =>
    obtain ⟨rfl, rfl⟩ := hcut
    clear HW0
    have HR3 := Lib.hid hC3
    go_wp2_with fail
    go_loopw [13, 14] (fun al i wr => ∃ t : Nat, ((t : Int) ≤ m ∨ t = 0) ∧ i = .int .i64 t ∧ al = .bool (decide (0 ≤ m) && withinB S ((sg : Int) % 6) a t) ∧ Below w3.heap.size w3 wr) (fun _ i _ => 200 - (intOf i).toNat)
    case atStart => exact ⟨0, .inr rfl, rfl, congrArg Value.bool HZ.out.symm, Below.refl _ _⟩
    case round =>
      obtain ⟨t, ht, rfl, rfl, hB⟩ := hrel
      have HBw := Lib.hid hB
      clear hB
      by_cases hlt : (t : Int) < m
      · have d0 : decide ((t : Int) < m) = true := decide_eq_true hlt
        have dm : decide (0 ≤ m) = true := decide_eq_true (by omega)
        rw [dm, Bool.true_and]
        have HNw := Lib.hid (HN3.out.on HBw.out)
        have HIt : Hid (In64 (a + t)) := Lib.hid (by unfold In64; omega)
        cases hw : withinB S ((sg : Int) % 6) a t with
        | true =>
          have HE := Lib.hid (within_next HF'.out hw)
          go_wp2_with fail
          refine (HT.out.place _ S _ (a + t) wr HNw.out HAl.out.1 HAl.out.2 HIn.out.1 HIt.out (HT.out.on HK.out (bsq HR3.out HBw.out))).mono ?_
          rintro e w4 ⟨rfl, hB4⟩
          have hB5 := bsq HBw.out hB4
          have HB5 := Lib.hid hB5
          clear hB5 hw
          go_wp2_with fail
          go_roundw
          case rel => exact ⟨t + 1, .inl (by omega), by go_num, by rw [HE.out, Bool.true_and], HB5.out⟩
          case measure => simp [intOf]; omega
        | false =>
          have HE := Lib.hid (within_less hw)
          clear hw
          go_wp2_with fail
          go_roundw
          case rel => exact ⟨t + 1, .inl (by omega), by go_num, by rw [HE.out]; rfl, HBw.out⟩
          case measure => simp [intOf]; omega
      · have d0 : decide ((t : Int) < m) = false := decide_eq_false hlt
        rw [HM.out t (by omega)]
        have d6 : (Wi == Wi) = true := by simp
        have HQ := Lib.hid (bsq HR3.out HBw.out)
        go_wp2_with fail
        refine (known7_any HT.out _ (HT.out.on HK.out HQ.out)).mono ?_
        rintro e w5 ⟨rfl, hB5⟩
        have hq := bsq HQ.out hB5
        go_wp2_with fail
        go_ret
        exact ⟨rfl, hq⟩

end Go.Proofs.Ythinhknfiaohlaa
