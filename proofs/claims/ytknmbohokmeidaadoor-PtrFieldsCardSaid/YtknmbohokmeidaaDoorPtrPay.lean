/-
  Layer 6: the package's Encode, inList, Words; PtrOK is paid.
-/
import Derived.Test.YtknmbohokmeidaaDoorPtrGoB
import Derived.Test.YtknmbohokmeidaaDoorPtrDec
namespace Go.Proofs.YtknmbohokmeidaaDoor
open Go.RowKit Go.Deep

set_option maxRecDepth 100000 in
set_option maxHeartbeats 2000000 in
theorem enc_any (p : Pt) (w : World) (L : Laid w) :
    Calls Tryd.prog 14 #[.agg (cellsP p)] w fun e w' => e = .returned (.tuple #[.int .u64 (encW p), .int .u16 (encE p)]) ∧ Below w.heap.size w w' := by
  have HRaw : Hid (0 ≤ rawW p ∧ rawW p ≤ 18446744073709551615) := Lib.hid (by have := rawW_bd p; omega)
  have HLd := Lib.hid (fun w L => laid_any p w L)
  obtain ⟨N, hN⟩ : ∃ N, rawW p = N := ⟨_, rfl⟩
  rw [hN] at HRaw HLd
  have hDc := fun w L => dec_any N w L HRaw.out.1 HRaw.out.2
  rw [show decE N = 0 by rw [← hN]; exact raw_e p] at hDc
  have HDc := Lib.hid hDc
  obtain ⟨q, hq⟩ : ∃ q, decP N = q := ⟨_, rfl⟩
  rw [hq] at HDc
  have hE1 : eqP q p = true → encW p = N ∧ encE p = 0 := fun hb => by
    have : encB p = true := by unfold encB; rw [raw_e, hN, hq, hb]; rfl
    unfold encW encE
    rw [this, hN]
    exact ⟨rfl, rfl⟩
  have hE2 : eqP q p = false → encW p = 0 ∧ encE p = 1 := fun hb => by
    have : encB p = false := by unfold encB; rw [raw_e, hN, hq, hb]; rfl
    unfold encW encE
    rw [this]
    exact ⟨rfl, rfl⟩
  have HL := Lib.hid L
  have HP0 := Lib.hid (PBox.new w p)
  have HC0 : Hid (Below w.heap.size w (w.alloc (.cells (cellsP p) 24))) := Lib.hid ((Below.refl _ _).alloc (Nat.le_refl _) _)
  have hne := fun w => run_neq_P w q p
  have hgd := fun w op x y xs ys => run_eqGuard_agg (P := Tryd.prog) w op 24 x y xs ys (by kernel_rfl)
  unfold cellsP at hne
  have hl0 : Hid (PBox (w.alloc (.cells #[.int .i64 p.kind, .int .i64 p.off, .int .i64 p.data, .int .i64 p.ptrs, .int .i64 p.size, .int .i64 p.count, .int .i64 p.seg, .bool p.dbl] 24)) w.heap.size p) := HP0
  obtain ⟨z0, z1, z2, z3, z4, z5, z6, z7⟩ := hl0.out.cells
  clear hl0 hN hq hDc L
  unfold cellsP
  cases hb : eqP q p
  all_goals
    rw [hb] at hne
    first | rw [(hE1 hb).1, (hE1 hb).2] | rw [(hE2 hb).1, (hE2 hb).2]
    clear hE1 hE2 hb
    go_enter Tryd.func14, Tryd.ntmps14
    go_wp2_with fail
    refine (HLd.out _ (HL.out.on HC0.out)).mono ?_
    rintro e w1 ⟨rfl, hB1⟩
    have HP1 := Lib.hid (HP0.out.on hB1)
    have HC1 := Lib.hid (bseq' HC0.out hB1)
    clear z0 z1 z2 z3 z4 z5 z6 z7
    go_wp2_with fail
    refine (HDc.out _ (HL.out.on HC1.out)).mono ?_
    rintro e w2 ⟨rfl, hB2⟩
    have HP2 := Lib.hid ((HP1.out.on hB2).on ((Below.refl _ _).alloc (Nat.le_refl _) (.cells (cellsP q) 24)))
    have HC2 := Lib.hid (bseq' (bseq' HC1.out hB2) ((Below.refl _ _).alloc (Nat.le_refl _) (.cells (cellsP q) 24)))
    obtain ⟨z0, z1, z2, z3, z4, z5, z6, z7⟩ := HP2.out.cells
    unfold cellsP at z0 z1 z2 z3 z4 z5 z6 z7 ⊢
    go_wp2_with fail
    go_ret2
    exact ⟨rfl, HC2.out⟩

set_option maxHeartbeats 1000000 in
theorem inlist_any (s c : Int) (w : World) (s0 : 0 ≤ s) (s1 : s < 8) (c0 : 0 ≤ c) (c1 : c < 536870912) :
    Calls Tryd.prog 22 #[.int .i64 s, .int .i64 c] w fun e w' => e = .returned (.tuple #[.int .i64 (if s = 2 then (c + 7) / 8 else if s = 5 ∨ s = 6 then c else 0), .int .u16 (if s = 2 ∨ s = 5 ∨ s = 6 then 0 else 23)]) ∧ Below w.heap.size w w' := by
  by_cases s2 : s = 2
  · subst s2
    have hc : ceilV c 8 = (c + 7) / 8 := by
      unfold ceilV
      rw [if_pos (by omega)]
      split <;> omega
    have HCe := Lib.hid (fun w => ceil_any c 8 w)
    rw [hc] at HCe
    have HV : Hid ((if (2 : Int) = 2 then (c + 7) / 8 else if (2 : Int) = 5 ∨ (2 : Int) = 6 then c else 0) = (c + 7) / 8 ∧ (if (2 : Int) = 2 ∨ (2 : Int) = 5 ∨ (2 : Int) = 6 then (0 : Int) else 23) = 0) := Lib.hid (by simp)
    rw [HV.out.1, HV.out.2]
    clear HV hc
    generalize (c + 7) / 8 = V at *
    go_enter Tryd.func22, Tryd.ntmps22
    go_wp2_with fail
    refine (HCe.out _).mono ?_
    rintro e w1 ⟨rfl, rfl⟩
    go_wp2_with fail
    go_ret2
    exact ⟨rfl, Below.refl _ _⟩
  have d2 : (s == 2) = false := by simpa using s2
  by_cases s5 : s = 5
  · subst s5
    have HV : Hid ((if (5 : Int) = 2 then (c + 7) / 8 else if (5 : Int) = 5 ∨ (5 : Int) = 6 then c else 0) = c ∧ (if (5 : Int) = 2 ∨ (5 : Int) = 5 ∨ (5 : Int) = 6 then (0 : Int) else 23) = 0) := Lib.hid (by simp)
    rw [HV.out.1, HV.out.2]
    go_enter Tryd.func22, Tryd.ntmps22
    go_wp2_with fail
    go_ret2
    exact ⟨rfl, Below.refl _ _⟩
  have d5 : (s == 5) = false := by simpa using s5
  by_cases s6 : s = 6
  · subst s6
    have HV : Hid ((if (6 : Int) = 2 then (c + 7) / 8 else if (6 : Int) = 5 ∨ (6 : Int) = 6 then c else 0) = c ∧ (if (6 : Int) = 2 ∨ (6 : Int) = 5 ∨ (6 : Int) = 6 then (0 : Int) else 23) = 0) := Lib.hid (by simp)
    rw [HV.out.1, HV.out.2]
    go_enter Tryd.func22, Tryd.ntmps22
    go_wp2_with fail
    go_ret2
    exact ⟨rfl, Below.refl _ _⟩
  have d6 : (s == 6) = false := by simpa using s6
  have HV : Hid ((if s = 2 then (c + 7) / 8 else if s = 5 ∨ s = 6 then c else 0) = 0 ∧ (if s = 2 ∨ s = 5 ∨ s = 6 then (0 : Int) else 23) = 23) := Lib.hid (by simp [s2, s5, s6])
  rw [HV.out.1, HV.out.2]
  clear HV s2 s5 s6
  go_enter Tryd.func22, Tryd.ntmps22
  go_wp2_with fail
  go_ret2
  exact ⟨rfl, Below.refl _ _⟩

set_option maxRecDepth 100000 in
set_option maxHeartbeats 2000000 in
theorem pwords_any (p : Pt) (w : World) (hp : OkP p) :
    Calls Tryd.prog 15 #[.agg (cellsP p)] w fun e w' => e = .returned (.tuple #[.int .i64 (wordN p), .int .u16 (wordE p)]) ∧ Below w.heap.size w w' := by
  obtain ⟨k, o, d, r, s, c, g, b⟩ := p
  have HB : ∀ cs, Below w.heap.size w (w.alloc (.cells cs 24)) := fun cs => (Below.refl _ _).alloc (Nat.le_refl _) _
  rcases hp with e | ⟨e, h1, h2, h3, h4, h5, h6, h7, h8⟩ | ⟨e, h1, h2, h3, h4, h5, h6, h7⟩ | ⟨e, h1, h2, h3, h4, h5, h6⟩
  · cases e
    unfold cellsP
    dsimp only
    go_enter Tryd.func15, Tryd.ntmps15
    go_wp2_with fail
    go_ret2
    exact ⟨rfl, HB _⟩
  · dsimp only at e h1 h2 h3 h4 h5 h6 h7 h8
    subst e h4 h5 h6 h7
    have HE : Hid (wordN ⟨1, o, d, r, 0, 0, 0, false⟩ = d + r ∧ wordE ⟨1, o, d, r, 0, 0, 0, false⟩ = 0) := Lib.hid (by simp [wordN, wordE])
    have hw : IntKind.i64.wrap (d + r) = d + r := IntWalk.i64_in _ (by omega)
    rw [HE.out.1, HE.out.2]
    clear h8 HE
    unfold cellsP
    dsimp only
    go_enter Tryd.func15, Tryd.ntmps15
    go_wp2_with fail
    go_ret2
    exact ⟨rfl, HB _⟩
  · dsimp only at e h1 h2 h3 h4 h5 h6 h7
    subst e h2 h3 h6 h7
    have HE : Hid (wordN ⟨2, o, 0, 0, s, c, 0, false⟩ = (if s = 2 then (c + 7) / 8 else if s = 5 ∨ s = 6 then c else 0) ∧ wordE ⟨2, o, 0, 0, s, c, 0, false⟩ = (if s = 2 ∨ s = 5 ∨ s = 6 then 0 else 23)) := Lib.hid (by simp [wordN, wordE])
    have HI := Lib.hid (fun w => inlist_any s c w h4.1 h4.2 h5.1 h5.2)
    rw [HE.out.1, HE.out.2]
    generalize (if s = 2 then (c + 7) / 8 else if s = 5 ∨ s = 6 then c else 0) = x at *
    generalize (if s = 2 ∨ s = 5 ∨ s = 6 then (0 : Int) else 23) = y at *
    clear HE h1 h4 h5
    unfold cellsP
    dsimp only
    go_enter Tryd.func15, Tryd.ntmps15
    go_wp2_with fail
    refine (HI.out _).mono ?_
    rintro e w1 ⟨rfl, hB1⟩
    have hC1 := bseq' (HB _) hB1
    go_wp2_with fail
    go_ret2
    exact ⟨rfl, hC1⟩
  · dsimp only at e h1 h2 h3 h4 h5 h6
    subst e h2 h3 h4 h5
    cases b
    all_goals
      have HE : Hid (wordE ⟨3, o, 0, 0, 0, 0, g, false⟩ = 0 ∧ wordE ⟨3, o, 0, 0, 0, 0, g, true⟩ = 0 ∧ wordN ⟨3, o, 0, 0, 0, 0, g, false⟩ = 1 ∧ wordN ⟨3, o, 0, 0, 0, 0, g, true⟩ = 2) := Lib.hid (by simp [wordN, wordE])
      first | rw [HE.out.1, HE.out.2.2.1] | rw [HE.out.2.1, HE.out.2.2.2]
      clear HE
      unfold cellsP
      dsimp only
      go_enter Tryd.func15, Tryd.ntmps15
      go_wp2_with fail
      refine (bit_any _ _).mono ?_
      rintro e w1 ⟨rfl, rfl⟩
      go_wp2_with fail
      go_ret2
      exact ⟨rfl, HB _⟩

theorem ptr_ok : PtrOK where
  dec := fun n w h0 h1 L => dec_any n w L h0 h1
  enc := fun p w _ L => enc_any p w L
  words := fun p w hp _ => pwords_any p w hp

end Go.Proofs.YtknmbohokmeidaaDoor
