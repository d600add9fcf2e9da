/-
  Layer 7: the walk of ArenaSpoil.
-/
import Derived.Test.YthinhknfiaohlaaArLawsF
namespace Go.Proofs.Ythinhknfiaohlaa
open Go.RowKit Go.Deep

theorem OwnU.setBelow {w : World} {base g : Nat} {v : Value} {xs : List Int} (h : OwnU w base v xs) (hg : g < base) (j : Nat) (u : Value) : OwnU (w.setCell ⟨g, j, none⟩ u) base v xs := ownsRow_setCell_below h (a := ⟨g, j, none⟩) hg u
theorem OwnA.setBelow {w : World} {base g : Nat} {v : Value} {ls : List (List Int)} (h : OwnA w base v ls) (hg : g < base) (j : Nat) (u : Value) : OwnA (w.setCell ⟨g, j, none⟩ u) base v ls := by
  obtain ⟨vs, h1, h2, h3⟩ := h
  exact ⟨vs, h1, ownsRow_setCell_below h2 (a := ⟨g, j, none⟩) hg u, fun i hi => (h3 i hi).setBelow hg j u⟩
theorem own_blockI {w : World} {base n : Nat} {v : Value} {l : List Int} (h : w.ownsRow base 3 1 v n (l.map (Value.int .i64))) (hn : 0 < n) :
    ∃ g cap f, v = .slice (some ⟨g, 0, none⟩) n cap ∧ base ≤ g ∧ n ≤ cap ∧ cap ≤ 9223372036854775807 ∧ w.rowIs g 3 cap f ∧ ∀ i, i < n → f i = .int .i64 (l[i]?.getD 0) := by
  obtain ⟨h1, ⟨_, h0⟩ | ⟨g, cap, cur, rfl, hb, hh, hc, hm, hs, ht⟩⟩ := h
  · omega
  · rw [Nat.mul_one] at h1 hs ht
    refine ⟨g, cap, fun i => cur[i]?.getD undef, rfl, hb, hc, by unfold maxLen at hm; omega, ⟨cur, hh, hs, fun i hi => ?_⟩, fun i hi => ?_⟩
    · show cur[i]? = some (cur[i]?.getD undef)
      rw [Array.getElem?_eq_getElem (by omega)]; rfl
    · have e : (cur.toList.take n)[i]? = cur[i]? := by rw [List.getElem?_take_of_lt hi]; simp
      rw [ht, List.getElem?_map] at e
      show cur[i]?.getD undef = _
      rw [← e]
      rw [List.length_map] at h1
      rw [List.getElem?_eq_getElem (by omega)]
      rfl
set_option maxRecDepth 100000 in
set_option maxHeartbeats 2000000 in
theorem aspoil_walk {K : World → Prop} (T : ArenaOK K) (vc : Value) (c : List Int) (n : Nat) (w : World)
    (hb : Bytes w w.heap.size vc c) (hc : AllB c) (hn : n < 256) (hK : K w) :
    Calls Try.prog 8 #[vc, .int .u8 n] w fun e w' => e = .returned (.bool true) ∧ Below w.heap.size w w' := by
  have HT := Lib.hid T
  have HK := Lib.hid hK
  have HB := Lib.hid hb
  have HX := Lib.hid (arL_sm hc n)
  have HF := Lib.hid (arL_fits c n)
  have HAl := Lib.hid (arL_all64 c n)
  obtain ⟨ls, hls⟩ : ∃ ls, arL c n = ls := ⟨_, rfl⟩
  have hlen : ls.length = 1 + n % 5 := by rw [← hls]; exact arL_length c n
  obtain ⟨M, hM, hM8, hM1000⟩ := genB_length c n
  have HGen := Lib.hid (fun w hb => gen_any vc c n w hb hc hn)
  rw [hls] at HX HF HAl hM HGen
  have HCut := Lib.hid (cut_of HX.out.2.2 HF.out)
  have HBa : Hid (AllB (bytesA ls) ∧ (bytesA ls).length ≤ 1000000000) := Lib.hid ⟨bytesA_all ls, by omega⟩
  have HM := Lib.hid hM
  obtain ⟨L, hL⟩ : ∃ L : Nat, L = (sizesL ls).length := ⟨_, rfl⟩
  have hL1 : 1 ≤ L := by rw [hL, sizesL_length]; omega
  have hL5 : L ≤ 5 := by rw [hL, sizesL_length]; omega
  have HL := Lib.hid hL
  clear T hK hc hn hls hlen hM hL
  obtain ⟨A3, c3, rfl, -⟩ := hb
  generalize c.length = n3 at *
  go_enter Try.func8, Try.ntmps8
  go_wp2_with fail
  refine (HGen.out w HB.out).mono ?_
  rintro e w1 ⟨x, rfl, ho, hB1⟩
  have HXv := Lib.hid ho.arV
  clear ho
  go_wp2_with fail
  refine (HT.out.bytes _ ls w1 HXv.out HX.out (HT.out.on HK.out hB1)).mono ?_
  rintro e w2 ⟨u2, rfl, ho, hB2⟩
  have HQ2 := Lib.hid (bsq hB1 hB2)
  have HR2 := Lib.hid hB2
  have hcv := bytes_conv ho.bytes
  clear ho hB2
  go_wp2_with fail
  refine (HT.out.bytes _ ls w2 (HXv.out.on HR2.out) HX.out (HT.out.on HK.out HQ2.out)).mono ?_
  rintro e w3 ⟨u3, rfl, ho, hB3⟩
  have HB3 := Lib.hid hB3
  have HQ3 := Lib.hid (bsq HQ2.out hB3)
  have HR3 := Lib.hid (bsq HR2.out hB3)
  have HO3 := Lib.hid ho
  clear ho hB3 hcv hB1
  go_wp2_with fail
  refine (HT.out.sizes _ ls w3 (HXv.out.on HR3.out) HX.out (HT.out.on HK.out HQ3.out)).mono ?_
  rintro e w4 ⟨u4, rfl, ho, hB4⟩
  have HU4 := Lib.hid (OwnN.numS ho)
  have HO4 := Lib.hid (HO3.out.on hB4)
  have HB4 := Lib.hid (bsq HB3.out hB4)
  have HQ4 := Lib.hid (bsq HQ3.out hB4)
  have HR4 := Lib.hid (bsq HR3.out hB4)
  have H34 : Hid (w3.heap.size ≤ w4.heap.size) := Lib.hid hB4.size
  clear ho hB4
  go_wp2_with fail
  refine (HT.out.cut _ _ (sizesL ls) (bytesA ls) w4 HU4.out HAl.out.1 HAl.out.2 HO4.out.bytes HBa.out.1 HBa.out.2 (HT.out.on HK.out HQ4.out)).mono ?_
  rintro e w5 ⟨z, rfl, ho, hB5⟩
  rw [HCut.out.1]
  rw [HCut.out.2] at ho
  have HZ5 := Lib.hid ho
  have HO5 := Lib.hid (HO4.out.on hB5)
  have HB5 := Lib.hid (bsq HB4.out hB5)
  have HQ5 := Lib.hid (bsq HQ4.out hB5)
  have HR5 := Lib.hid (bsq HR4.out hB5)
  clear ho hB5
  obtain ⟨g, cap, f, rfl, hg, hc1, hc2, hrow, hf⟩ := own_block HO5.out (by rw [HM.out]; omega)
  have hg3 : g < w4.heap.size := (World.ownsRow.lt HO4.out g rfl).2
  rw [HM.out] at hc1
  rw [HM.out] at hf
  rw [HM.out]
  have HRow : Hid (∃ f, w5.rowIs g 5 cap f ∧ ∀ i, i < M → ∃ x, f i = .int .u8 x ∧ 0 ≤ x ∧ x ≤ 255) := Lib.hid ⟨f, hrow, fun i hi => ⟨_, hf i hi, (HBa.out.1.at_ i).1, (HBa.out.1.at_ i).2⟩⟩
  have HG := Lib.hid (And.intro hg hg3)
  clear hrow hf hg hg3
  go_wp2_with fail
  go_loopw [10] (fun i wr => ∃ t : Nat, t ≤ M ∧ i = .int .i64 t ∧ (∃ f, wr.rowIs g 5 cap f ∧ ∀ i, i < M → ∃ x, f i = .int .u8 x ∧ 0 ≤ x ∧ x ≤ 255) ∧ OwnA wr w4.heap.size z ls ∧ Below w2.heap.size w2 wr) (fun i _ => M - (intOf i).toNat)
  case atStart => exact ⟨0, by omega, rfl, HRow.out, HZ5.out, HB5.out⟩
  case round =>
    obtain ⟨t, ht, rfl, ⟨f, hrow, hf⟩, hz, hB⟩ := hrel
    have HZ := Lib.hid hz
    have HBw := Lib.hid hB
    have HFf := Lib.hid hf
    have HRw := Lib.hid hrow
    clear hz hB hf hrow
    by_cases hlt : t < M
    · have p1 := HRw.out.cell (i := t) (by omega)
      have hfz := HRw.out.frozen t
      obtain ⟨x, hx, x0, x1⟩ := HFf.out t hlt
      rw [hx] at p1
      have HR : Hid ((∃ f, (wr.setCell ⟨g, t, none⟩ (.int .u8 (IntKind.u8.wrap (x + 1)))).rowIs g 5 cap f ∧ ∀ i, i < M → ∃ x, f i = .int .u8 x ∧ 0 ≤ x ∧ x ≤ 255) ∧ OwnA (wr.setCell ⟨g, t, none⟩ (.int .u8 (IntKind.u8.wrap (x + 1)))) w4.heap.size z ls ∧ Below w2.heap.size w2 (wr.setCell ⟨g, t, none⟩ (.int .u8 (IntKind.u8.wrap (x + 1))))) := Lib.hid ⟨⟨_, HRw.out.set t _, fun i hi => by
        by_cases e : i = t
        · subst e
          exact ⟨_, if_pos rfl, by rw [IntKind.wrap_u8]; omega, by rw [IntKind.wrap_u8]; omega⟩
        · obtain ⟨y, hy, hb⟩ := HFf.out i hi
          exact ⟨y, by simp only [if_neg e]; exact hy, hb⟩⟩, HZ.out.setBelow HG.out.2 t _, HBw.out.setCell (p := ⟨g, t, none⟩) HG.out.1 _⟩
      have hwr : IntKind.u8.wrap (x + 1) = (x + 1) % 256 := by rw [IntKind.wrap_u8]
      rw [hwr] at HR
      clear hx x0 x1
      go_wp2_with fail
      go_roundw
      case rel => exact ⟨t + 1, by omega, by go_num, HR.out.1, HR.out.2.1, HR.out.2.2⟩
      case measure => simp [intOf]; omega
    · obtain rfl : t = M := by omega
      have HQw := Lib.hid (bsq HQ2.out HBw.out)
      have HRw' := Lib.hid (bsq HR2.out HBw.out)
      have HZv := Lib.hid HZ.out.arV
      go_wp2_with fail
      refine (HT.out.sizes _ ls wr (HXv.out.on HRw'.out) HX.out (HT.out.on HK.out HQw.out)).mono ?_
      rintro e w6 ⟨u6, rfl, ho, hB6⟩
      obtain ⟨g2, cap2, f2, rfl, hg2, hd1, hd2, hrow2, hf2⟩ := own_blockI ho (by rw [← HL.out]; omega)
      rw [← HL.out] at hd1 hf2 ⊢
      have p2 := hrow2.cell (i := 0) (by omega)
      rw [hf2 0 (by omega)] at p2
      have hfz2 := hrow2.frozen 0
      have hB7 := hB6.setCell (p := ⟨g2, 0, none⟩) hg2 (.int .i64 99)
      have HB7 := Lib.hid hB7
      have HQ7 := Lib.hid (bsq HQw.out hB7)
      have HR7 := Lib.hid (bsq HRw'.out hB7)
      have HZ7 := Lib.hid (HZv.out.on hB7)
      have dL : ((L : Int) == 0) = false := by rw [beq_eq_false_iff_ne]; omega
      have iL : (0 : Int) < (L : Int) := by omega
      clear ho hrow2 hf2 hB6 hB7
      go_wp2_with fail
      refine (HT.out.bytes _ ls _ HZ7.out HX.out (HT.out.on HK.out HQ7.out)).mono ?_
      rintro e w8 ⟨u8, rfl, ho, hB8⟩
      have HQ8 := Lib.hid (bsq HQ7.out hB8)
      have HR8 := Lib.hid (bsq HR7.out hB8)
      have hcv := bytes_conv ho.bytes
      clear ho hB8 p2 hfz2
      go_wp2_with fail
      refine (known7_any HT.out w8 (HT.out.on HK.out HQ8.out)).mono ?_
      rintro e w9 ⟨rfl, hB9⟩
      have HQ9 := Lib.hid (bsq HQ8.out hB9)
      have HR9 := Lib.hid (bsq HR8.out hB9)
      clear hB9 hcv
      go_wp2_with fail
      refine (HT.out.bytes _ ls w9 (HXv.out.on HR9.out) HX.out (HT.out.on HK.out HQ9.out)).mono ?_
      rintro e wA ⟨uA, rfl, ho, hBA⟩
      have hQA := bsq HQ9.out hBA
      have hcv := bytes_conv ho.bytes
      clear ho hBA
      go_wp2_with fail
      go_ret
      exact ⟨by first | rfl | simp, hQA⟩

end Go.Proofs.Ythinhknfiaohlaa
