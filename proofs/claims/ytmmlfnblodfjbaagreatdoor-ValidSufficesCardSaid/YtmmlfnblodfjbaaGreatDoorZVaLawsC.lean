/-
  Layer 11: the law ValidSuffices, given what the four calls pay.
-/
import Derived.Test.YtmmlfnblodfjbaaGreatDoorZVaK
import Derived.Test.YtmmlfnblodfjbaaGreatDoorZTbBent
import Derived.Test.YtmmlfnblodfjbaaGreatDoorZRsC
import Derived.Test.YtmmlfnblodfjbaaGreatDoorZRdPath
import Derived.Test.YtmmlfnblodfjbaaGreatDoorZAr

namespace Go.Proofs.YtmmlfnblodfjbaaGreatDoor
open Go.RowKit Go.Deep

theorem offS_bd {ls : List (List Int)} (h : ∀ l ∈ ls, l.length ≤ 4096) : (t : Nat) → offS ls t ≤ 4096 * t
  | 0 => by unfold offS; simp
  | t+1 => by
    have := offS_bd h t
    by_cases e : t < ls.length
    · rw [offS_next e, List.getElem?_eq_getElem e, Option.getD_some]
      have := h _ (List.getElem_mem e)
      omega
    · have e2 : offS ls (t + 1) = offS ls t := by
        unfold offS
        rw [List.take_of_length_le (by omega), List.take_of_length_le (by omega)]
      omega
theorem sameB_self (a : List Sp) : sameB a a = true := decide_eq_true rfl
theorem bent_nil (w : World) (B : Nat) : Bytes w B (.slice none 0 0) [] := ⟨none, 0, rfl, by simp, by omega, fun h => by simp at h⟩

set_option maxRecDepth 100000 in
set_option maxHeartbeats 8000000 in
theorem suffices11_walk (H : ValidOK) (c d : List Int) (vc vd : Value) (k q : Nat) (x : Int) (w : World) (hc : Bytes w w.heap.size vc c) (hcb : AllB c) (hd : Bytes w w.heap.size vd d) (hdb : AllB d) (hk : k ≤ 255) (hq : q ≤ 255) (hx : 0 ≤ x ∧ x ≤ 18446744073709551615) (L : Laid w) :
    Calls Tryz.prog 5 #[vc, vd, .int .u8 k, .int .u8 q, .int .u64 x] w fun e w' => e = .returned (.bool true) ∧ Below w.heap.size w w' := by
  have HK := Lib.hid (fun X (hX : Below w.heap.size w X) => known11_any H X (L.on hX))
  have HBe := Lib.hid (bent_any c [] vc (.slice none 0 0) k w hc (bent_nil _ _) hcb (fun x hx => by simp at hx) hk)
  have HPt := Lib.hid (fun X (hX : Below w.heap.size w X) => path9_any d vd q X (hd.on hX) hdb hq)
  have HSt := Lib.hid (stepsC_pos (c := d) (t := min d.length 6)).2
  have HS6 : Hid ((stepsC d (min d.length 6)).length ≤ 6) := Lib.hid (by rw [stepsC_len (by omega)]; omega)
  generalize stepsC d (min d.length 6) = ks at *
  have HL := Lib.hid L
  have HH := Lib.hid H
  have HXb := Lib.hid hx
  obtain ⟨Ac, cc, rfl⟩ := hc.form rfl
  obtain ⟨Ad, cd, rfl⟩ := hd.form rfl
  obtain ⟨lc, hlc⟩ : ∃ lc, lc = c.length := ⟨_, rfl⟩
  rw [← hlc] at HBe ⊢
  generalize d.length = ld at *
  clear hc hcb hd hdb hk hq L H hlc hx
  go_enter Tryz.func5, Tryz.ntmps5
  by_cases hl : (lc : Int) > 200
  · go_wp2_with fail
    refine (HK.out w (Below.refl _ _)).mono ?_
    rintro e w2 ⟨rfl, hB2⟩
    have HB2 := Lib.hid hB2
    clear hB2
    go_wp2_with fail
    go_ret
    exact ⟨rfl, HB2.out⟩
  · go_wp2_with fail
    refine HBe.out.mono ?_
    intro e1 w1 hR
    obtain ⟨v1, ls, he1, ha1, hu1, -, hl1, hn1, hB1⟩ := hR
    subst he1
    obtain ⟨Aa, ca, rfl⟩ := ha1.form rfl
    have HGd := Lib.hid (srA_good (by omega) hu1 (sizes_all64 ha1))
    have HA1 := Lib.hid ha1
    have HB1 := Lib.hid hB1
    have HU1 := Lib.hid hu1
    have HLs := Lib.hid hl1
    have HN1 := Lib.hid hn1
    obtain ⟨na, hna⟩ : ∃ n, n = ls.length := ⟨_, rfl⟩
    have HNa := Lib.hid hna
    rw [← hna]
    clear ha1 hu1 hl1 hn1 hB1 hna
    go_wp2_with fail
    refine (HPt.out w1 HB1.out).mono ?_
    rintro e3 w2 ⟨sv, i, rfl, hi, hs2, hB2⟩
    obtain ⟨A6, c6, rfl⟩ := hs2.form rfl
    obtain ⟨w3, hw3⟩ : ∃ w3, w3 = w2.alloc (.cells #[.slice A6 ks.length c6, .int .i64 i] 47) := ⟨_, rfl⟩
    have hB3 : Below w2.heap.size w2 w3 := by rw [hw3]; exact (Below.refl _ _).alloc (Nat.le_refl _) _
    have HX3 : Hid (PaBox w3 w2.heap.size (.slice A6 ks.length c6) i) := Lib.hid (by rw [hw3]; unfold PaBox; exact blk_alloc_new _ _)
    have HN3 := Lib.hid (hs2.on hB3)
    have HC3 := Lib.hid (bseqS hB2 hB3)
    have HB3 := Lib.hid (bseqS HB1.out HC3.out)
    have hTc := HH.out.touched _ _ ls ks i w3 (HL.out.on HB3.out) (HA1.out.on HC3.out) (by have := HN1.out; omega) HU1.out HN3.out HSt.out hi
    have HTc := Lib.hid hTc
    have HIn := Lib.hid hi
    rw [← HNa.out] at HTc
    clear hi hs2 hB2 hB3 hTc
    go_upto_region 5 with fail
    rw [← hw3]
    clear hw3
    obtain ⟨p0, p1⟩ := HX3.out.cells
    go_wp2_with fail
    refine HTc.out.mono ?_
    rintro e w4 ⟨u, rfl, hsp, hB4⟩
    obtain ⟨As, cs, rfl⟩ := hsp.form rfl
    have HSp := Lib.hid hsp
    have HC4 := Lib.hid (bseqS HC3.out hB4)
    have HB4 := Lib.hid (bseqS HB1.out HC4.out)
    have HX4 := Lib.hid (HX3.out.on hB4 HX3.out.lt)
    have HN4 := Lib.hid (HN3.out.on hB4)
    obtain ⟨T, hT⟩ : ∃ T, T = touchV ls ks i := ⟨_, rfl⟩
    have HTe := Lib.hid hT
    rw [← hT] at HSp ⊢
    obtain ⟨ns, hns⟩ : ∃ n, n = T.1.length := ⟨_, rfl⟩
    have HNs := Lib.hid hns
    rw [← hns] at HSp ⊢
    clear hsp hB4 hT hns p0 p1 HTc
    by_cases hz : T.2 = 0
    · rw [hz]
      have hsf := arW_suffices HGd.out (ks := ks) (i := i) (by rw [← HTe.out]; exact hz) x
      rw [← HTe.out] at hsf
      have HSf := Lib.hid hsf
      have HZ := Lib.hid hz
      clear hz hsf
      obtain ⟨L1, hL1⟩ : ∃ L, L = T.1 := ⟨_, rfl⟩
      rw [← hL1] at HSf HSp
      have HL1 := Lib.hid hL1
      have HLm : Hid (L1.length ≤ 1000000000) := Lib.hid (by rw [hL1, HTe.out]; have := touch_len ls ks i; have := HS6.out; omega)
      clear hL1
      have HHas := Lib.hid (fun X (hX : Below w4.heap.size w4 X) n => has11_any _ L1 n X.heap.size X (HSp.out.on hX))
      go_wp2_with fail
      go_loopw [15, 16, 17] (fun o nn ii wr => ∃ t : Nat, t ≤ na ∧ ii = .int .i64 t ∧ nn = .int .i64 ((offS ls t : Nat) : Int) ∧ OwnA wr w4.heap.size o (arW L1 x ls t) ∧ Below w4.heap.size w4 wr) (fun _ _ ii _ => na - (intOf ii).toNat)
      case atStart => exact ⟨0, by omega, rfl, rfl, OwnA.nil _ _, Below.refl _ _⟩
      case round =>
        obtain ⟨t, ht, rfl, rfl, ho, hBr⟩ := hrel
        generalize wr = wa at *
        have HO := Lib.hid ho
        have HBr := Lib.hid hBr
        have hnb : na ≤ 16 := by rw [HNa.out]; exact HN1.out
        clear ho hBr
        by_cases hlt : t < na
        · have i1 : (t : Int) < (na : Int) := by omega
          obtain ⟨A9, c9, e9, -, -, hr9⟩ := HA1.out
          obtain ⟨g, off, ea, hg, hcell⟩ := hr9 (by rw [← HNa.out]; omega)
          injection e9 with e91 e92 e93
          subst e91 ea
          obtain ⟨sg, r0, rN⟩ := hcell t (by rw [← HNa.out]; exact hlt)
          obtain ⟨m, hm⟩ : ∃ m, m = (ls[t]?.getD []).length := ⟨_, rfl⟩
          obtain ⟨A7, c7, rfl⟩ := rN.form hm.symm
          have hmb : m ≤ 4096 := by
            rw [hm, List.getElem?_eq_getElem (by rw [← HNa.out]; exact hlt)]
            exact HLs.out _ (List.getElem_mem _)
          have HM := Lib.hid (And.intro hm hmb)
          have HSeg : Hid (∀ X, Below w4.heap.size w4 X → X.cell? ⟨g, off + t, none⟩ = some (.slice A7 m c7) ∧ NumS .u64 X X.heap.size (.slice A7 m c7) (ls[t]?.getD [])) := Lib.hid (fun X hX => by
            have hb := bseqS HC4.out hX
            exact ⟨(hb.cell (p := ⟨g, off + t, none⟩) hg).trans r0, rN.on hb⟩)
          have HOf : Hid (offS ls (t + 1) = offS ls t + m ∧ offS ls t ≤ 4096 * t) := Lib.hid ⟨by rw [offS_next (by rw [← HNa.out]; exact hlt), ← hm], offS_bd HLs.out t⟩
          have HLt := Lib.hid hlt
          clear hr9 hcell r0 rN hm hmb e92 e93 hg hlt
          go_wp2_with fail
          go_loopw [16, 18, 19] (fun nn s jj wx => ∃ j : Nat, j ≤ m ∧ jj = .int .i64 j ∧ nn = .int .i64 ((offS ls t + j : Nat) : Int) ∧ OwnU wx wa.heap.size s (segW L1 x ls t j) ∧ Below wa.heap.size wa wx) (fun _ _ jj _ => m - (intOf jj).toNat)
          case atStart => exact ⟨0, by omega, rfl, rfl, OwnU.nil _ _, Below.refl _ _⟩
          case round =>
            obtain ⟨j, hj, rfl, rfl, hs, hBx⟩ := hrel
            generalize wr = wx at *
            have HSg := Lib.hid hs
            have HBx := Lib.hid hBx
            obtain ⟨r0, rN⟩ := HSeg.out wx (bseqS HBr.out hBx)
            have hmb := HM.out.2
            obtain ⟨A3, c3, rfl⟩ : ∃ A c, u18 = .slice A j c := by
              obtain ⟨A, c', e, _⟩ := OwnN.numS hs
              rw [segW_length] at e
              exact ⟨A, c', e⟩
            clear hs hBx
            by_cases hlj : j < m
            · have j1 : (j : Int) < (m : Int) := by omega
              have hob := HOf.out.2
              obtain ⟨K, hK⟩ : ∃ K, K = offS ls t + j := ⟨_, rfl⟩
              have HKe := Lib.hid hK
              have HOb : Hid (K ≤ 100000) := Lib.hid (by omega)
              rw [← hK]
              have hwv : wvW L1 x ls t j = if inS L1 (K : Int) = true then (ls[t]?.getD [])[j]?.getD 0 else (x + (K : Int) * 11400714819323198485 % 18446744073709551616) % 18446744073709551616 := by rw [hK]; rfl
              have HWv := Lib.hid hwv
              obtain ⟨q1, hq1⟩ : ∃ q, q = (K : Int) * 11400714819323198485 % 18446744073709551616 := ⟨_, rfl⟩
              obtain ⟨q2, hq2⟩ : ∃ q, q = (x + q1) % 18446744073709551616 := ⟨_, rfl⟩
              have hm1 : IntKind.u64.wrap ((K : Int) * 11400714819323198485) = q1 := by rw [IntKind.wrap_u64, hq1]
              have hm2 : IntKind.u64.wrap (x + q1) = q2 := by rw [IntKind.wrap_u64, hq2]
              have hm0 : IntKind.u64.wrap (K : Int) = (K : Int) := by rw [IntKind.wrap_u64]; omega
              rw [← hq1, ← hq2] at HWv
              have HHk := Lib.hid (HHas.out wx (bseqS HBr.out HBx.out) (K : Int))
              clear hK hob hwv hq1 hq2
              go_wp2_with fail
              refine HHk.out.mono ?_
              rintro e wy ⟨rfl, rfl⟩
              clear hm0 hm1 hm2
              by_cases hin : inS L1 (K : Int) = true
              · rw [hin]
                obtain ⟨A8, c8, e8, -, -, hr8⟩ := rN
                obtain ⟨g8, off8, ea8, -, hcell8⟩ := hr8 (by rw [← HM.out.1]; omega)
                injection e8 with e81 e82 e83
                subst e81 ea8
                have p8 := hcell8 j (by rw [← HM.out.1]; exact hlj)
                obtain ⟨y, hy⟩ : ∃ y, y = (ls[t]?.getD [])[j]?.getD 0 := ⟨_, rfl⟩
                rw [← hy] at p8
                have HY : Hid (wvW L1 x ls t j = y) := Lib.hid (by rw [HWv.out, if_pos hin, hy])
                clear hr8 hcell8 hy e82 e83 hin
                obtain ⟨v', w', hrun, ho', hg'⟩ := append_u wx wa.heap.size 31 _ (segW L1 x ls t j) y HSg.out (by rw [segW_length]; omega) HBx.out.size
                have HRun := Lib.hid hrun
                have HR : Hid (OwnU w' wa.heap.size v' (segW L1 x ls t (j + 1)) ∧ Below wa.heap.size wa w') := Lib.hid ⟨by rw [segW_succ, HY.out]; exact ho', (HBx.out.alloc HBx.out.size _).grown hg' (by have := HBx.out.size; simp; omega) (fun k e => (World.ownsRow.lt HSg.out k e).1)⟩
                have HJ := Lib.hid hlj
                have hofb := HOb.out
                clear hrun ho' hg'
                go_wp2_with (at_builtin; refine Lib.wpList_append_run _ rfl _ _ _ _ rfl _ _ rfl rfl _ _ HRun.out ?_)
                go_roundw
                case rel => exact ⟨j + 1, by have := HJ.out; omega, by go_num, by have hke := HKe.out; go_num, HR.out.1, HR.out.2⟩
                case measure => have := HJ.out; simp [intOf]; omega
              · obtain ⟨y, hy⟩ : ∃ y, y = q2 := ⟨_, rfl⟩
                have HY : Hid (wvW L1 x ls t j = y) := Lib.hid (by rw [HWv.out, if_neg hin, hy])
                have hin2 : inS L1 (K : Int) = false := by simpa using hin
                rw [hin2, ← hy]
                clear hin hin2 hy
                obtain ⟨v', w', hrun, ho', hg'⟩ := append_u wx wa.heap.size 31 _ (segW L1 x ls t j) y HSg.out (by rw [segW_length]; omega) HBx.out.size
                have HRun := Lib.hid hrun
                have HR : Hid (OwnU w' wa.heap.size v' (segW L1 x ls t (j + 1)) ∧ Below wa.heap.size wa w') := Lib.hid ⟨by rw [segW_succ, HY.out]; exact ho', (HBx.out.alloc HBx.out.size _).grown hg' (by have := HBx.out.size; simp; omega) (fun k e => (World.ownsRow.lt HSg.out k e).1)⟩
                have HJ := Lib.hid hlj
                have hofb := HOb.out
                clear hrun ho' hg'
                go_wp2_with (at_builtin; refine Lib.wpList_append_run _ rfl _ _ _ _ rfl _ _ rfl rfl _ _ HRun.out ?_)
                go_roundw
                case rel => exact ⟨j + 1, by have := HJ.out; omega, by go_num, by have hke := HKe.out; go_num, HR.out.1, HR.out.2⟩
                case measure => have := HJ.out; simp [intOf]; omega
            · obtain rfl : j = m := by omega
              have j1 : ¬ (j : Int) < (j : Int) := by omega
              have hO1 := HO.out.on HBx.out
              have hB1' := bseqS HBr.out HBx.out
              obtain ⟨v', w', hrun, ho', hg'⟩ := append_seg wx w4.heap.size 23 u15 _ (arW L1 x ls t) (segW L1 x ls t j) hO1 (HSg.out.base HBr.out.size) (by rw [arW_length]; omega) hB1'.size
              have HRun := Lib.hid hrun
              have HR : Hid (OwnA w' w4.heap.size v' (arW L1 x ls (t + 1)) ∧ Below w4.heap.size w4 w') := Lib.hid ⟨by rw [arW_succ, ← HM.out.1]; exact ho', (hB1'.alloc hB1'.size _).grown hg' (by have := hB1'.size; simp; omega) (fun k e => by
                obtain ⟨vs, _, h2, _⟩ := hO1
                exact (World.ownsRow.lt h2 k e).1)⟩
              clear hrun ho' hg' hO1 hB1'
              go_wp2_with (at_builtin; refine Lib.wpList_append_run _ rfl _ _ _ _ rfl _ _ rfl rfl _ _ HRun.out ?_)
              go_roundw
              case rel => exact ⟨t + 1, by have := HLt.out; omega, by go_num, by rw [HOf.out.1]; simp, HR.out.1, HR.out.2⟩
              case measure => have := HLt.out; simp [intOf]; omega
        · obtain rfl : t = na := by omega
          have i1 : ¬ (t : Int) < (t : Int) := by omega
          have HB5 := Lib.hid (bseqS HB4.out HBr.out)
          have HA5 := Lib.hid (HA1.out.on (bseqS HC4.out HBr.out))
          have HX5 := Lib.hid (HX4.out.on HBr.out HX4.out.lt)
          have HN5 := Lib.hid (HN4.out.on HBr.out)
          have HSp5 := Lib.hid (HSp.out.on HBr.out)
          have HE5 : Hid ((ofV ls ks i 8192).2 = 0 ∧ (touchV ls ks i).2 = 0 ∧ (touchV ls ks i).1 = L1 ∧ (∀ c, ofV (arW L1 x ls t) ks i c = ofV ls ks i c) ∧ touchV (arW L1 x ls t) ks i = touchV ls ks i) := Lib.hid (by
            have h0 : (touchV ls ks i).2 = 0 := by rw [← HTe.out]; exact HZ.out
            refine ⟨by rw [← touch_err]; exact h0, h0, by rw [← HTe.out, HL1.out], fun c => ?_, ?_⟩
            · rw [HNa.out]; exact HSf.out.1 c
            · rw [HNa.out, HTe.out] at *; exact HSf.out.2)
          obtain ⟨b0, b1, b2, b3, b4⟩ := HE5.out
          have hAb := HO.out.arV
          have hlb : (arW L1 x ls t).length ≤ 1000000000 := by rw [arW_length]; omega
          have hub : AllU (arW L1 x ls t) := arW_u L1 x HU1.out t
          have hOf1 := rof_any _ ls _ ks i 8192 wa HA5.out (by have := HN1.out; omega) HU1.out HN5.out HSt.out HIn.out ⟨by decide, by decide⟩
          have hOf2 := fun X (hX : Below wa.heap.size wa X) => rof_any _ (arW L1 x ls t) _ ks i 8192 X (hAb.on hX) hlb hub (HN5.out.on hX) HSt.out HIn.out ⟨by decide, by decide⟩
          have hTc2 := fun X (hX : Below wa.heap.size wa X) => HH.out.touched _ _ (arW L1 x ls t) ks i X (HL.out.on (bseqS HB5.out hX)) (hAb.on hX) hlb hub (HN5.out.on hX) HSt.out HIn.out
          rw [b3] at hOf2
          rw [b4, b1, b2] at hTc2
          obtain ⟨Ab, cb, rfl⟩ := hAb.form rfl
          rw [arW_length] at hOf2 hTc2 ⊢
          generalize ofV ls ks i 8192 = V at *
          obtain ⟨⟨va, vb, vc, vd, ve⟩, er⟩ := V
          dsimp only at b0
          subst b0
          unfold VaJ cellsV at hOf1 hOf2
          dsimp only at hOf1 hOf2
          have HOf1 := Lib.hid hOf1
          have HOf2 := Lib.hid hOf2
          have HTc2 := Lib.hid hTc2
          rw [← HNa.out] at HOf1
          generalize ks.length = nk at *
          clear b1 b2 b3 b4 hAb hlb hub hOf1 hOf2 hTc2 HE5 HSf HTe
          obtain ⟨p0, p1⟩ := HX5.out.cells
          go_wp2_with fail
          refine HOf1.out.mono ?_
          intro e w6 hR
          obtain ⟨he, hB6⟩ := hR
          subst he
          obtain ⟨w7, hw7⟩ : ∃ w7, w7 = w6.alloc (.cells #[.int .i64 va, .int .i64 vb, .int .i64 vc, .int .i64 vd, .int .u64 ve] 54) := ⟨_, rfl⟩
          have hB7 : Below w6.heap.size w6 w7 := by rw [hw7]; exact (Below.refl _ _).alloc (Nat.le_refl _) _
          have HV7 : Hid (VBox w7 w6.heap.size ⟨va, vb, vc, vd, ve⟩) := Lib.hid (by rw [hw7]; exact VBox.new w6 ⟨va, vb, vc, vd, ve⟩)
          have HC7 := Lib.hid (bseqS hB6 hB7)
          clear hB6 hB7 p0 p1
          obtain ⟨p0, p1⟩ := (HX5.out.on HC7.out HX5.out.lt).cells
          go_upto_region 24 with fail
          rw [← hw7]
          clear hw7
          go_wp2_with fail
          refine (HOf2.out w7 HC7.out).mono ?_
          intro e w8 hR
          obtain ⟨he, hB8⟩ := hR
          subst he
          obtain ⟨w9, hw9⟩ : ∃ w9, w9 = w8.alloc (.cells #[.int .i64 va, .int .i64 vb, .int .i64 vc, .int .i64 vd, .int .u64 ve] 54) := ⟨_, rfl⟩
          have hB9 : Below w8.heap.size w8 w9 := by rw [hw9]; exact (Below.refl _ _).alloc (Nat.le_refl _) _
          have HV9 : Hid (VBox w9 w8.heap.size ⟨va, vb, vc, vd, ve⟩) := Lib.hid (by rw [hw9]; exact VBox.new w8 ⟨va, vb, vc, vd, ve⟩)
          have HV79 := Lib.hid (HV7.out.on (bseqS hB8 hB9))
          have HC9 := Lib.hid (bseqS HC7.out (bseqS hB8 hB9))
          clear hB8 hB9 p0 p1
          obtain ⟨p0, p1⟩ := (HX5.out.on HC9.out HX5.out.lt).cells
          go_upto_region 25 with fail
          rw [← hw9]
          clear hw9
          go_wp2_with fail
          refine (HTc2.out w9 HC9.out).mono ?_
          rintro e wA ⟨u, rfl, hsp, hBA⟩
          have HSpA := Lib.hid hsp
          have HSpB := Lib.hid (HSp5.out.on (bseqS HC9.out hBA))
          obtain ⟨A10, c10, rfl⟩ := hsp.form rfl
          have HVa := Lib.hid (HV79.out.on hBA)
          have HVb := Lib.hid (HV9.out.on hBA)
          have HBA := Lib.hid (bseqS HB5.out (bseqS HC9.out hBA))
          obtain ⟨nt, hnt⟩ : ∃ n, n = L1.length := ⟨_, rfl⟩
          rw [← hnt] at HSpA ⊢
          generalize w6.heap.size = ga at *
          generalize w8.heap.size = gb at *
          clear hsp hBA p0 p1 hnt
          go_wp2_with fail
          refine (HK.out wA HBA.out).mono ?_
          rintro e wB ⟨rfl, hBB⟩
          obtain ⟨y0, y1, y2, y3, y4⟩ := (HVa.out.on hBB).cells
          obtain ⟨u0, u1, u2, u3, u4⟩ := (HVb.out.on hBB).cells
          dsimp only at y0 y1 y2 y3 y4 u0 u1 u2 u3 u4
          have HSm := Lib.hid (same_any _ _ L1 L1 wB.heap.size wB.heap.size wB (HSpB.out.on hBB) (HSpA.out.on hBB) HLm.out HLm.out)
          rw [sameB_self] at HSm
          have HBB := Lib.hid (bseqS HBA.out hBB)
          have hqv : eqV ⟨va, vb, vc, vd, ve⟩ ⟨va, vb, vc, vd, ve⟩ = true := by unfold eqV; simp
          have hqe : ∀ X, (binOp .eql 54 (.agg #[.int .i64 va, .int .i64 vb, .int .i64 vc, .int .i64 vd, .int .u64 ve]) (.agg #[.int .i64 va, .int .i64 vb, .int .i64 vc, .int .i64 vd, .int .u64 ve])).run Tryz.prog X = .ok (.bool true) X := fun X => by
            have := run_eql_V X ⟨va, vb, vc, vd, ve⟩ ⟨va, vb, vc, vd, ve⟩
            rw [hqv] at this
            exact this
          have hgd := fun w op x y xs ys => run_eqGuard_agg (P := Tryz.prog) w op 54 x y xs ys (by kernel_rfl)
          clear hBB hqv
          go_wp2_with fail
          refine HSm.out.mono ?_
          rintro e wC ⟨rfl, nd, rfl⟩
          go_wp2_with fail
          go_ret
          exact ⟨by simp, below_drewN HBB.out nd⟩
    · have hz1 : (T.2 != 0) = true := by simp [hz]
      go_wp2_with fail
      refine (HK.out w4 HB4.out).mono ?_
      rintro e w5 ⟨rfl, hB5⟩
      have HB5 := Lib.hid (bseqS HB4.out hB5)
      clear hB5
      go_wp2_with fail
      go_ret
      exact ⟨rfl, HB5.out⟩

end Go.Proofs.YtmmlfnblodfjbaaGreatDoor
