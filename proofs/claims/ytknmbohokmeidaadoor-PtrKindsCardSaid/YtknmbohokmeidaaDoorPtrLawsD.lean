/-
  Layer 6: the walks of PtrKinds, PtrOffs.
-/
import Derived.Test.YtknmbohokmeidaaDoorPtrLawsA
namespace Go.Proofs.YtknmbohokmeidaaDoor
open Go.RowKit Go.Deep

theorem dec_kind {n : Int} (hz : n ≠ 0) : (n % 4 = 0 → (decP n).kind = 1) ∧ (n % 4 = 1 → (decP n).kind = 2) ∧ (n % 4 = 2 → (decP n).kind = 3) := by
  unfold decP
  rw [if_neg hz]
  refine ⟨fun h => by rw [if_pos h], fun h => by rw [if_neg (by omega), if_pos h], fun h => by rw [if_neg (by omega), if_neg (by omega), if_pos h]⟩
theorem okp_pos {p : Pt} (h : OkP p) : 0 ≤ p.data ∧ 0 ≤ p.ptrs ∧ 0 ≤ p.count ∧ (p.kind = 3 → 0 ≤ p.off ∧ 0 ≤ p.seg) := by
  rcases h with e | ⟨e, h1, h2, h3, h4, h5, h6, h7, h8⟩ | ⟨e, h1, h2, h3, h4, h5, h6, h7⟩ | ⟨e, h1, h2, h3, h4, h5, h6⟩
  · rw [e]; decide
  · omega
  · omega
  · omega
set_option maxRecDepth 100000 in
set_option maxHeartbeats 4000000 in
theorem pkinds_walk (T : PtrOK) (n : Int) (w : World) (n0 : 0 ≤ n) (n1 : n ≤ 18446744073709551615) (L : Laid w) : Calls Tryd.prog 7 #[.int .u64 n] w fun e w' => e = .returned (.bool true) ∧ Below w.heap.size w w' := by
  have HL := Lib.hid L
  clear L
  have HT := Lib.hid T
  by_cases hz : n = 0
  · subst hz
    have HD := Lib.hid (T.dec 0 w (by decide) (by decide) HL.out)
    rw [show decP 0 = Pt.zero from rfl, show decE 0 = 0 by decide] at HD
    clear T n0 n1
    go_enter Tryd.func7, Tryd.ntmps7
    go_wp2_with fail
    refine HD.out.mono ?_
    rintro e w1 ⟨rfl, hB1⟩
    have HP1 := Lib.hid (PBox.new w1 Pt.zero)
    have HC1 : Hid (Below w.heap.size w (w1.alloc (.cells (cellsP Pt.zero) 24))) := Lib.hid (hB1.alloc hB1.size _)
    unfold cellsP Pt.zero
    dsimp only
    go_wp2_with fail
    refine (known_ptr HT.out _ (by first | exact HL.out | exact HL.out.on HC6.out | exact HL.out.on HC5.out | exact HL.out.on HC4.out | exact HL.out.on HC3.out | exact HL.out.on HC2.out | exact HL.out.on HC1.out | exact HL.out.on (HC1 _).out | exact HL.out.on HC0.out | exact HL.out.on hC5 | exact HL.out.on hC4 | exact HL.out.on hC3 | exact HL.out.on hC2 | exact HL.out.on hB1)).mono ?_
    rintro e w2 ⟨rfl, hB2⟩
    have HC2 := Lib.hid (bseq' HC1.out hB2)
    obtain ⟨z0, z1, z2, z3, z4, z5, z6, z7⟩ := (HP1.out.on hB2).cells
    unfold Pt.zero at z0 z1 z2 z3 z4 z5 z6 z7
    dsimp only at z0 z1 z2 z3 z4 z5 z6 z7
    go_wp2_with fail
    go_ret
    exact ⟨rfl, HC2.out⟩
  · have HD := T.dec n w n0 n1 HL.out
    have hk := dec_kind hz
    have hp := okp_pos (dec_okp n0 n1)
    have d0 : (n == 0) = false := by simpa using hz
    rcases (show n % 4 = 3 ∨ n % 4 = 0 ∨ n % 4 = 1 ∨ n % 4 = 2 by omega) with m4 | m4 | m4 | m4
    · rw [show decE n = 23 by unfold decE; rw [if_pos m4], (dec_err (n := n) (by unfold decE; rw [if_pos m4]; decide)).1] at HD
      have HDD := Lib.hid HD
      clear T hk hp HD
      go_enter Tryd.func7, Tryd.ntmps7
      go_wp2_with fail
      refine HDD.out.mono ?_
      rintro e w1 ⟨rfl, hB1⟩
      have HP1 := Lib.hid (PBox.new w1 Pt.zero)
      have HC1 : Hid (Below w.heap.size w (w1.alloc (.cells (cellsP Pt.zero) 24))) := Lib.hid (hB1.alloc hB1.size _)
      unfold cellsP Pt.zero
      dsimp only
      go_wp2_with fail
      refine (known_ptr HT.out _ (by first | exact HL.out | exact HL.out.on HC6.out | exact HL.out.on HC5.out | exact HL.out.on HC4.out | exact HL.out.on HC3.out | exact HL.out.on HC2.out | exact HL.out.on HC1.out | exact HL.out.on (HC1 _).out | exact HL.out.on HC0.out | exact HL.out.on hC5 | exact HL.out.on hC4 | exact HL.out.on hC3 | exact HL.out.on hC2 | exact HL.out.on hB1)).mono ?_
      rintro e w2 ⟨rfl, hB2⟩
      have HC2 := Lib.hid (bseq' HC1.out hB2)
      obtain ⟨z0, z1, z2, z3, z4, z5, z6, z7⟩ := (HP1.out.on hB2).cells
      unfold Pt.zero at z0 z1 z2 z3 z4 z5 z6 z7
      dsimp only at z0 z1 z2 z3 z4 z5 z6 z7
      go_wp2_with fail
      go_ret
      exact ⟨rfl, HC2.out⟩
    · rw [show decE n = 0 by unfold decE; rw [if_neg (by omega)]] at HD
      obtain ⟨p, hq⟩ : ∃ p, decP n = p := ⟨_, rfl⟩
      rw [hq] at HD hk hp
      obtain ⟨k, o, d, r, s, c, g, b⟩ := p
      dsimp only at hk hp
      obtain rfl : k = 1 := hk.1 m4
      have HDD := Lib.hid HD
      have e1 : decide (0 ≤ d) = true := decide_eq_true hp.1
      have e2 : decide (0 ≤ r) = true := decide_eq_true hp.2.1
      have e3 : decide (0 ≤ c) = true := decide_eq_true hp.2.2.1
      have f1 := hp.1
      have f2 := hp.2.1
      have f3 := hp.2.2.1
      have h4 := hp.2.2.2
      clear T hk hp HD hq
      clear h4
      go_enter Tryd.func7, Tryd.ntmps7
      go_wp2_with fail
      refine HDD.out.mono ?_
      rintro e w1 ⟨rfl, hB1⟩
      have HC1 : ∀ cs, Hid (Below w.heap.size w (w1.alloc (.cells cs 24))) := fun cs => Lib.hid (hB1.alloc hB1.size _)
      have HP1 := fun p => Lib.hid (PBox.new w1 p)
      unfold cellsP
      dsimp only
      go_wp2_with fail
      refine (known_ptr HT.out _ (by first | exact HL.out | exact HL.out.on HC6.out | exact HL.out.on HC5.out | exact HL.out.on HC4.out | exact HL.out.on HC3.out | exact HL.out.on HC2.out | exact HL.out.on HC1.out | exact HL.out.on (HC1 _).out | exact HL.out.on HC0.out | exact HL.out.on hC5 | exact HL.out.on hC4 | exact HL.out.on hC3 | exact HL.out.on hC2 | exact HL.out.on hB1)).mono ?_
      rintro e w2 ⟨rfl, hB2⟩
      have HC2 := Lib.hid (bseq' (HC1 _).out hB2)
      obtain ⟨z0, z1, z2, z3, z4, z5, z6, z7⟩ := ((HP1 ⟨1, o, d, r, s, c, g, b⟩).out.on hB2).cells
      dsimp only at z0 z1 z2 z3 z4 z5 z6 z7
      clear HP1
      go_wp2_with fail
      go_ret
      exact ⟨rfl, HC2.out⟩
    · rw [show decE n = 0 by unfold decE; rw [if_neg (by omega)]] at HD
      obtain ⟨p, hq⟩ : ∃ p, decP n = p := ⟨_, rfl⟩
      rw [hq] at HD hk hp
      obtain ⟨k, o, d, r, s, c, g, b⟩ := p
      dsimp only at hk hp
      obtain rfl : k = 2 := hk.2.1 m4
      have HDD := Lib.hid HD
      have e1 : decide (0 ≤ d) = true := decide_eq_true hp.1
      have e2 : decide (0 ≤ r) = true := decide_eq_true hp.2.1
      have e3 : decide (0 ≤ c) = true := decide_eq_true hp.2.2.1
      have f1 := hp.1
      have f2 := hp.2.1
      have f3 := hp.2.2.1
      have h4 := hp.2.2.2
      clear T hk hp HD hq
      clear h4
      go_enter Tryd.func7, Tryd.ntmps7
      go_wp2_with fail
      refine HDD.out.mono ?_
      rintro e w1 ⟨rfl, hB1⟩
      have HC1 : ∀ cs, Hid (Below w.heap.size w (w1.alloc (.cells cs 24))) := fun cs => Lib.hid (hB1.alloc hB1.size _)
      have HP1 := fun p => Lib.hid (PBox.new w1 p)
      unfold cellsP
      dsimp only
      go_wp2_with fail
      refine (known_ptr HT.out _ (by first | exact HL.out | exact HL.out.on HC6.out | exact HL.out.on HC5.out | exact HL.out.on HC4.out | exact HL.out.on HC3.out | exact HL.out.on HC2.out | exact HL.out.on HC1.out | exact HL.out.on (HC1 _).out | exact HL.out.on HC0.out | exact HL.out.on hC5 | exact HL.out.on hC4 | exact HL.out.on hC3 | exact HL.out.on hC2 | exact HL.out.on hB1)).mono ?_
      rintro e w2 ⟨rfl, hB2⟩
      have HC2 := Lib.hid (bseq' (HC1 _).out hB2)
      obtain ⟨z0, z1, z2, z3, z4, z5, z6, z7⟩ := ((HP1 ⟨2, o, d, r, s, c, g, b⟩).out.on hB2).cells
      dsimp only at z0 z1 z2 z3 z4 z5 z6 z7
      clear HP1
      go_wp2_with fail
      go_ret
      exact ⟨rfl, HC2.out⟩
    · rw [show decE n = 0 by unfold decE; rw [if_neg (by omega)]] at HD
      obtain ⟨p, hq⟩ : ∃ p, decP n = p := ⟨_, rfl⟩
      rw [hq] at HD hk hp
      obtain ⟨k, o, d, r, s, c, g, b⟩ := p
      dsimp only at hk hp
      obtain rfl : k = 3 := hk.2.2 m4
      have HDD := Lib.hid HD
      have e1 : decide (0 ≤ d) = true := decide_eq_true hp.1
      have e2 : decide (0 ≤ r) = true := decide_eq_true hp.2.1
      have e3 : decide (0 ≤ c) = true := decide_eq_true hp.2.2.1
      have f1 := hp.1
      have f2 := hp.2.1
      have f3 := hp.2.2.1
      have h4 := hp.2.2.2
      clear T hk hp HD hq
      have f4 := (h4 rfl).1
      have f5 := (h4 rfl).2
      have e4 : decide (0 ≤ o) = true := decide_eq_true f4
      have e5 : decide (0 ≤ g) = true := decide_eq_true f5
      clear h4
      go_enter Tryd.func7, Tryd.ntmps7
      go_wp2_with fail
      refine HDD.out.mono ?_
      rintro e w1 ⟨rfl, hB1⟩
      have HC1 : ∀ cs, Hid (Below w.heap.size w (w1.alloc (.cells cs 24))) := fun cs => Lib.hid (hB1.alloc hB1.size _)
      have HP1 := fun p => Lib.hid (PBox.new w1 p)
      unfold cellsP
      dsimp only
      go_wp2_with fail
      refine (known_ptr HT.out _ (by first | exact HL.out | exact HL.out.on HC6.out | exact HL.out.on HC5.out | exact HL.out.on HC4.out | exact HL.out.on HC3.out | exact HL.out.on HC2.out | exact HL.out.on HC1.out | exact HL.out.on (HC1 _).out | exact HL.out.on HC0.out | exact HL.out.on hC5 | exact HL.out.on hC4 | exact HL.out.on hC3 | exact HL.out.on hC2 | exact HL.out.on hB1)).mono ?_
      rintro e w2 ⟨rfl, hB2⟩
      have HC2 := Lib.hid (bseq' (HC1 _).out hB2)
      obtain ⟨z0, z1, z2, z3, z4, z5, z6, z7⟩ := ((HP1 ⟨3, o, d, r, s, c, g, b⟩).out.on hB2).cells
      dsimp only at z0 z1 z2 z3 z4 z5 z6 z7
      clear HP1
      go_wp2_with fail
      go_ret
      exact ⟨rfl, HC2.out⟩

end Go.Proofs.YtknmbohokmeidaaDoor
