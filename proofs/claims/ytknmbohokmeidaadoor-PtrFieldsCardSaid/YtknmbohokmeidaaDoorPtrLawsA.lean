/-
  Layer 6: the law's encodes, and its Ptr out of choices.
-/
import Derived.Test.YtknmbohokmeidaaDoorPtrOK
namespace Go.Proofs.YtknmbohokmeidaaDoor
open Go.RowKit Go.Deep

set_option maxRecDepth 100000 in
set_option maxHeartbeats 4000000 in
theorem encodes_any (T : PtrOK) (p : Pt) (w : World) (hp : InP p) (L : Laid w) : Calls Tryd.prog 12 #[.agg (cellsP p)] w fun e w' => e = .returned (.bool true) ∧ Below w.heap.size w w' := by
  have HL := Lib.hid L
  clear L
  have HD : ∀ w, Laid w → Calls Tryd.prog 14 #[.agg (cellsP p)] w fun e w' => e = .returned (.tuple #[.int .u64 (encW p), .int .u16 (encE p)]) ∧ Below w.heap.size w w' := fun w L => T.enc p w hp L
  have HR : ∀ w, Calls Tryd.prog 18 #[.agg (cellsP p)] w fun e w' => e = .returned (.tuple #[.int .u64 (encW p), .int .i64 (encE p)]) ∧ Below w.heap.size w w' := fun w => renc_any p w
  have HP0 := Lib.hid (PBox.new w p)
  have HC0 : Hid (Below w.heap.size w (w.alloc (.cells (cellsP p) 24))) := Lib.hid ((Below.refl _ _).alloc (Nat.le_refl _) _)
  cases hb : encB p with
  | true =>
    have HOk := Lib.hid (enc_ok hb)
    have HW : ∀ w, Laid w → Calls Tryd.prog 15 #[.agg (cellsP p)] w fun e w' => e = .returned (.tuple #[.int .i64 (wordN p), .int .u16 (wordE p)]) ∧ Below w.heap.size w w' := fun w L => T.words p w HOk.out L
    have HV : ∀ w, Calls Tryd.prog 17 #[.agg (cellsP p)] w fun e w' => e = .returned (.tuple #[.int .i64 (wordN p), .int .i64 (wordE p)]) ∧ Below w.heap.size w w' := fun w => rwords_any p HOk.out w
    have he : encE p = 0 := by unfold encE; rw [hb]; rfl
    rw [he] at HD HR
    have hwb := wordE_bd p
    generalize wordE p = we at *
    generalize wordN p = wn at *
    generalize encW p = en at *
    have HDD := Lib.hid HD
    have HRR := Lib.hid HR
    have HWW := Lib.hid HW
    have HVV := Lib.hid HV
    clear T hp HD HR HW HV he hb
    have d1 : (wn == wn) = true := by simp
    have d2 : (en == en) = true := by simp
    unfold cellsP
    rcases hwb with rfl | rfl
    all_goals
      go_enter Tryd.func12, Tryd.ntmps12
      go_wp2_with fail
      refine (HDD.out _ (by first | exact HL.out | exact HL.out.on HC6.out | exact HL.out.on HC5.out | exact HL.out.on HC4.out | exact HL.out.on HC3.out | exact HL.out.on HC2.out | exact HL.out.on HC1.out | exact HL.out.on (HC1 _).out | exact HL.out.on HC0.out | exact HL.out.on hC5 | exact HL.out.on hC4 | exact HL.out.on hC3 | exact HL.out.on hC2 | exact HL.out.on hB1)).mono ?_
      rintro e w1 ⟨rfl, hB1⟩
      have HP1 := Lib.hid (HP0.out.on hB1)
      have HC1 := Lib.hid (bseq' HC0.out hB1)
      obtain ⟨z0, z1, z2, z3, z4, z5, z6, z7⟩ := HP1.out.cells
      go_wp2_with fail
      refine (HRR.out _).mono ?_
      rintro e w2 ⟨rfl, hB2⟩
      have HP2 := Lib.hid (HP1.out.on hB2)
      have HC2 := Lib.hid (bseq' HC1.out hB2)
      clear z0 z1 z2 z3 z4 z5 z6 z7
      obtain ⟨z0, z1, z2, z3, z4, z5, z6, z7⟩ := HP2.out.cells
      go_wp2_with fail
      refine (HWW.out _ (by first | exact HL.out | exact HL.out.on HC6.out | exact HL.out.on HC5.out | exact HL.out.on HC4.out | exact HL.out.on HC3.out | exact HL.out.on HC2.out | exact HL.out.on HC1.out | exact HL.out.on (HC1 _).out | exact HL.out.on HC0.out | exact HL.out.on hC5 | exact HL.out.on hC4 | exact HL.out.on hC3 | exact HL.out.on hC2 | exact HL.out.on hB1)).mono ?_
      rintro e w3 ⟨rfl, hB3⟩
      have HP3 := Lib.hid (HP2.out.on hB3)
      have HC3 := Lib.hid (bseq' HC2.out hB3)
      clear z0 z1 z2 z3 z4 z5 z6 z7
      obtain ⟨z0, z1, z2, z3, z4, z5, z6, z7⟩ := HP3.out.cells
      go_wp2_with fail
      refine (HVV.out _).mono ?_
      rintro e w4 ⟨rfl, hB4⟩
      have HC4 := Lib.hid (bseq' HC3.out hB4)
      go_wp2_with fail
      go_ret
      exact ⟨rfl, HC4.out⟩
  | false =>
    have he : encE p = 1 := by unfold encE; rw [hb]; rfl
    rw [he] at HD HR
    generalize encW p = en at *
    have HDD := Lib.hid HD
    have HRR := Lib.hid HR
    clear T hp HD HR he hb
    have d2 : (en == en) = true := by simp
    unfold cellsP
    go_enter Tryd.func12, Tryd.ntmps12
    go_wp2_with fail
    refine (HDD.out _ (by first | exact HL.out | exact HL.out.on HC6.out | exact HL.out.on HC5.out | exact HL.out.on HC4.out | exact HL.out.on HC3.out | exact HL.out.on HC2.out | exact HL.out.on HC1.out | exact HL.out.on (HC1 _).out | exact HL.out.on HC0.out | exact HL.out.on hC5 | exact HL.out.on hC4 | exact HL.out.on hC3 | exact HL.out.on hC2 | exact HL.out.on hB1)).mono ?_
    rintro e w1 ⟨rfl, hB1⟩
    have HP1 := Lib.hid (HP0.out.on hB1)
    have HC1 := Lib.hid (bseq' HC0.out hB1)
    obtain ⟨z0, z1, z2, z3, z4, z5, z6, z7⟩ := HP1.out.cells
    go_wp2_with fail
    refine (HRR.out _).mono ?_
    rintro e w2 ⟨rfl, hB2⟩
    have HC2 := Lib.hid (bseq' HC1.out hB2)
    go_wp2_with fail
    go_ret
    exact ⟨rfl, HC2.out⟩

/-! ### a pointer out of choices -/
def choP (a b c k : Int) : Pt :=
  if k % 4 = 1 then ⟨1, a % 1073741824 - 536870912, b % 65536, c % 65536, 0, 0, 0, false⟩
  else if k % 4 = 2 then ⟨2, a % 1073741824 - 536870912, 0, 0, b % 8, c % 536870912, 0, false⟩
  else if k % 4 = 3 then ⟨3, a % 536870912, 0, 0, 0, 0, b, c % 2 == 1⟩
  else Pt.zero
def bendP (a b c k : Int) (p : Pt) : Pt := if 200 < k then { p with off := a, data := b % 70000, count := p.count + c % 3 } else p
set_option maxRecDepth 100000 in
set_option maxHeartbeats 4000000 in
theorem cho_any (a b c k : Int) (w : World) (a0 : 0 ≤ a) (a1 : a ≤ 4294967295) (b0 : 0 ≤ b) (b1 : b ≤ 4294967295) (c0 : 0 ≤ c) (c1 : c ≤ 4294967295) (k0 : 0 ≤ k) (k1 : k ≤ 255) :
    Calls Tryd.prog 9 #[.int .u32 a, .int .u32 b, .int .u32 c, .int .u8 k] w fun e w' => e = .returned (.agg (cellsP (bendP a b c k (choP a b c k)))) ∧ Below w.heap.size w w' := by
  have HB : ∀ cs ds, Below w.heap.size w ((w.alloc (.cells cs 24)).alloc (.cells ds 24)) := fun cs ds => ((Below.refl _ _).alloc (Nat.le_refl _) _).alloc (by simp) _
  rcases (show k % 4 = 1 ∨ k % 4 = 2 ∨ k % 4 = 3 ∨ k % 4 = 0 by omega) with m4 | m4 | m4 | m4
  · by_cases h2 : 200 < k
    · have d2 : decide (200 < k) = true := decide_eq_true h2
      have HE : Hid (bendP a b c k (choP a b c k) = ⟨1, a, b % 70000, c % 65536, 0, c % 3, 0, false⟩) := Lib.hid (by
        unfold bendP choP
        rw [if_pos h2, if_pos m4]
        simp)
      rw [HE.out]
      clear HE
      go_enter Tryd.func9, Tryd.ntmps9
      go_wp2_with fail
      refine bodyPost_ret (v := .agg (cellsP ⟨1, a, b % 70000, c % 65536, 0, c % 3, 0, false⟩)) ?_ rfl ⟨rfl, HB _ _⟩
      simp [results, Tryd.f9, go_sem, cellsP]
    · have d2 : decide (200 < k) = false := decide_eq_false h2
      have HE : Hid (bendP a b c k (choP a b c k) = ⟨1, a % 1073741824 - 536870912, b % 65536, c % 65536, 0, 0, 0, false⟩) := Lib.hid (by
        unfold bendP choP
        rw [if_neg h2, if_pos m4])
      rw [HE.out]
      clear HE
      go_enter Tryd.func9, Tryd.ntmps9
      go_wp2_with fail
      refine bodyPost_ret (v := .agg (cellsP ⟨1, a % 1073741824 - 536870912, b % 65536, c % 65536, 0, 0, 0, false⟩)) ?_ rfl ⟨rfl, HB _ _⟩
      simp [results, Tryd.f9, go_sem, cellsP]
  · by_cases h2 : 200 < k
    · have d2 : decide (200 < k) = true := decide_eq_true h2
      have HE : Hid (bendP a b c k (choP a b c k) = ⟨2, a, b % 70000, 0, b % 8, c % 536870912 + c % 3, 0, false⟩) := Lib.hid (by
        unfold bendP choP
        rw [if_pos h2, if_neg (show ¬ k % 4 = 1 by omega), if_pos m4])
      rw [HE.out]
      clear HE
      go_enter Tryd.func9, Tryd.ntmps9
      go_wp2_with fail
      refine bodyPost_ret (v := .agg (cellsP ⟨2, a, b % 70000, 0, b % 8, c % 536870912 + c % 3, 0, false⟩)) ?_ rfl ⟨rfl, HB _ _⟩
      simp [results, Tryd.f9, go_sem, cellsP]
    · have d2 : decide (200 < k) = false := decide_eq_false h2
      have HE : Hid (bendP a b c k (choP a b c k) = ⟨2, a % 1073741824 - 536870912, 0, 0, b % 8, c % 536870912, 0, false⟩) := Lib.hid (by
        unfold bendP choP
        rw [if_neg h2, if_neg (show ¬ k % 4 = 1 by omega), if_pos m4])
      rw [HE.out]
      clear HE
      go_enter Tryd.func9, Tryd.ntmps9
      go_wp2_with fail
      refine bodyPost_ret (v := .agg (cellsP ⟨2, a % 1073741824 - 536870912, 0, 0, b % 8, c % 536870912, 0, false⟩)) ?_ rfl ⟨rfl, HB _ _⟩
      simp [results, Tryd.f9, go_sem, cellsP]
  · by_cases h2 : 200 < k
    · have d2 : decide (200 < k) = true := decide_eq_true h2
      have HE : Hid (bendP a b c k (choP a b c k) = ⟨3, a, b % 70000, 0, 0, c % 3, b, c % 2 == 1⟩) := Lib.hid (by
        unfold bendP choP
        rw [if_pos h2, if_neg (show ¬ k % 4 = 1 by omega), if_neg (show ¬ k % 4 = 2 by omega), if_pos m4]
        simp)
      rw [HE.out]
      clear HE
      go_enter Tryd.func9, Tryd.ntmps9
      go_wp2_with fail
      refine bodyPost_ret (v := .agg (cellsP ⟨3, a, b % 70000, 0, 0, c % 3, b, c % 2 == 1⟩)) ?_ rfl ⟨rfl, HB _ _⟩
      simp [results, Tryd.f9, go_sem, cellsP]
    · have d2 : decide (200 < k) = false := decide_eq_false h2
      have HE : Hid (bendP a b c k (choP a b c k) = ⟨3, a % 536870912, 0, 0, 0, 0, b, c % 2 == 1⟩) := Lib.hid (by
        unfold bendP choP
        rw [if_neg h2, if_neg (show ¬ k % 4 = 1 by omega), if_neg (show ¬ k % 4 = 2 by omega), if_pos m4])
      rw [HE.out]
      clear HE
      go_enter Tryd.func9, Tryd.ntmps9
      go_wp2_with fail
      refine bodyPost_ret (v := .agg (cellsP ⟨3, a % 536870912, 0, 0, 0, 0, b, c % 2 == 1⟩)) ?_ rfl ⟨rfl, HB _ _⟩
      simp [results, Tryd.f9, go_sem, cellsP]
  · by_cases h2 : 200 < k
    · have d2 : decide (200 < k) = true := decide_eq_true h2
      have HE : Hid (bendP a b c k (choP a b c k) = ⟨0, a, b % 70000, 0, 0, c % 3, 0, false⟩) := Lib.hid (by
        unfold bendP choP
        rw [if_pos h2, if_neg (show ¬ k % 4 = 1 by omega), if_neg (show ¬ k % 4 = 2 by omega), if_neg (show ¬ k % 4 = 3 by omega)]
        simp [Pt.zero])
      rw [HE.out]
      clear HE
      go_enter Tryd.func9, Tryd.ntmps9
      go_wp2_with fail
      refine bodyPost_ret (v := .agg (cellsP ⟨0, a, b % 70000, 0, 0, c % 3, 0, false⟩)) ?_ rfl ⟨rfl, HB _ _⟩
      simp [results, Tryd.f9, go_sem, cellsP]
    · have d2 : decide (200 < k) = false := decide_eq_false h2
      have HE : Hid (bendP a b c k (choP a b c k) = ⟨0, 0, 0, 0, 0, 0, 0, false⟩) := Lib.hid (by
        unfold bendP choP
        rw [if_neg h2, if_neg (show ¬ k % 4 = 1 by omega), if_neg (show ¬ k % 4 = 2 by omega), if_neg (show ¬ k % 4 = 3 by omega)]
        rfl)
      rw [HE.out]
      clear HE
      go_enter Tryd.func9, Tryd.ntmps9
      go_wp2_with fail
      refine bodyPost_ret (v := .agg (cellsP ⟨0, 0, 0, 0, 0, 0, 0, false⟩)) ?_ rfl ⟨rfl, HB _ _⟩
      simp [results, Tryd.f9, go_sem, cellsP]

end Go.Proofs.YtknmbohokmeidaaDoor
