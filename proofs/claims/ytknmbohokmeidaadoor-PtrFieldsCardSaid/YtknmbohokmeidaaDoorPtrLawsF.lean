/-
  Layer 6: the walk of PtrFields.
-/
import Derived.Test.YtknmbohokmeidaaDoorPtrLawsA
namespace Go.Proofs.YtknmbohokmeidaaDoor
open Go.RowKit Go.Deep

theorem enc_no {p : Pt} (h : ¬ OkP p) : encE p = 1 := by
  unfold encE
  rw [show encB p = false by rw [← Bool.not_eq_true]; exact fun e => h (enc_ok e)]
  rfl
theorem enc_yes {p : Pt} (h : OkP p) : encE p = 0 := by unfold encE; rw [ok_enc h]; rfl
/-- a field that is too great, or that the kind has not -/
def bent (p : Pt) (i : Nat) : Pt :=
  if i = 0 then { p with off := if p.kind = 3 then -1 else 536870912 } else if i = 1 then { p with data := 65536 } else if i = 2 then { p with ptrs := -1 } else if i = 3 then { p with size := 8 } else if i = 4 then { p with count := 536870912 } else { p with seg := 4294967296 }
theorem bent_no {p : Pt} (hk : p.kind = 1 ∨ p.kind = 2 ∨ p.kind = 3) (i : Nat) : ¬ OkP (bent p i) := by
  obtain ⟨k, o, d, r, s, c, g, b⟩ := p
  dsimp only at hk
  unfold bent
  intro h
  rcases (show i = 0 ∨ i = 1 ∨ i = 2 ∨ i = 3 ∨ i = 4 ∨ (i ≠ 0 ∧ i ≠ 1 ∧ i ≠ 2 ∧ i ≠ 3 ∧ i ≠ 4) by omega) with e | e | e | e | e | e
  all_goals
    simp only [e, if_true, if_false, Nat.reduceEqDiff, Nat.succ_ne_self] at h
    rcases h with e | h | h | h
    · have := congrArg Pt.kind e
      simp [Pt.zero] at this
      omega
    · dsimp only at h
      first | omega | (split at h <;> omega)
    · dsimp only at h
      first | omega | (split at h <;> omega)
    · dsimp only at h
      first | omega | (split at h <;> omega)
theorem bent_in {p : Pt} (h : InP p) (i : Nat) : InP (bent p i) := by
  unfold InP I64 at *
  unfold bent
  repeat' split
  all_goals dsimp only; omega

set_option maxRecDepth 100000 in
set_option maxHeartbeats 8000000 in
theorem fields_1 (T : PtrOK) (a b c k wh : Nat) (w : World) (A B C : Int) (hp : OkP ⟨1, A, B, C, 0, 0, 0, false⟩) (hz : eqP ⟨1, A, B, C, 0, 0, 0, false⟩ ⟨1, 0, 0, 0, 0, 0, 0, false⟩ = false) (m3 : (k : Int) % 3 = 0) (hwh : wh < 256)
    (hc : ∀ w, Calls Tryd.prog 9 #[.int .u32 a, .int .u32 b, .int .u32 c, .int .u8 1] w fun e w' => e = .returned (.agg (cellsP ⟨1, A, B, C, 0, 0, 0, false⟩)) ∧ Below w.heap.size w w') (L : Laid w) :
    Calls Tryd.prog 5 #[.int .u32 a, .int .u32 b, .int .u32 c, .int .u8 k, .int .u8 wh] w fun e w' => e = .returned (.bool true) ∧ Below w.heap.size w w' := by
  have HL := Lib.hid L
  clear L
  have HT := Lib.hid T
  have HCh := Lib.hid hc
  have hE1 : ∀ w, Laid w → Calls Tryd.prog 14 #[.agg (cellsP ⟨1, A, B, C, 0, 0, 0, false⟩)] w fun e w' => e = .returned (.tuple #[.int .u64 (encW ⟨1, A, B, C, 0, 0, 0, false⟩), .int .u16 0]) ∧ Below w.heap.size w w' := fun w L => by
    have := T.enc ⟨1, A, B, C, 0, 0, 0, false⟩ w (okp_in hp) L
    rwa [enc_yes hp] at this
  have hE2 : ∀ i w, Laid w → Calls Tryd.prog 14 #[.agg (cellsP (bent ⟨1, A, B, C, 0, 0, 0, false⟩ i))] w fun e w' => e = .returned (.tuple #[.int .u64 (encW (bent ⟨1, A, B, C, 0, 0, 0, false⟩ i)), .int .u16 1]) ∧ Below w.heap.size w w' := fun i w L => by
    have := T.enc (bent ⟨1, A, B, C, 0, 0, 0, false⟩ i) w (bent_in (okp_in hp) i) L
    rwa [enc_no (bent_no (by dsimp only; omega) i)] at this
  generalize encW ⟨1, A, B, C, 0, 0, 0, false⟩ = x at *
  have HE1 := Lib.hid hE1
  have HE20 := Lib.hid hE2
  have hne := fun w => run_eql_P w ⟨1, A, B, C, 0, 0, 0, false⟩ ⟨1, 0, 0, 0, 0, 0, 0, false⟩
  rw [hz] at hne
  have hgd := fun w op x y xs ys => run_eqGuard_agg (P := Tryd.prog) w op 24 x y xs ys (by kernel_rfl)
  unfold cellsP at hne
  dsimp only at hne
  clear T hp hz hc hE1 hE2
  rcases (show (wh : Int) % 6 = 0 ∨ (wh : Int) % 6 = 1 ∨ (wh : Int) % 6 = 2 ∨ (wh : Int) % 6 = 3 ∨ (wh : Int) % 6 = 4 ∨ (wh : Int) % 6 = 5 by omega) with m6 | m6 | m6 | m6 | m6 | m6
  · have hE2 : ∀ w, Laid w → Calls Tryd.prog 14 #[.agg (cellsP ⟨1, 536870912, B, C, 0, 0, 0, false⟩)] w fun e w' => e = .returned (.tuple #[.int .u64 (encW (bent ⟨1, A, B, C, 0, 0, 0, false⟩ 0)), .int .u16 1]) ∧ Below w.heap.size w w' := fun w L => HE20.out 0 w L
    generalize encW (bent ⟨1, A, B, C, 0, 0, 0, false⟩ 0) = y at *
    have HE2 := Lib.hid hE2
    clear hE2
    go_enter Tryd.func5, Tryd.ntmps5
    go_wp2_with fail
    refine (HCh.out _).mono ?_
    rintro e w1 ⟨rfl, hB1⟩
    have HP1 := Lib.hid ((PBox.new w1 (⟨1, A, B, C, 0, 0, 0, false⟩ : Pt)).on ((Below.refl _ _).alloc (Nat.le_refl _) (.cells (cellsP (⟨1, 536870912, B, C, 0, 0, 0, false⟩ : Pt)) 24)))
    have HQ1 := Lib.hid (PBox.new (w1.alloc (.cells (cellsP (⟨1, A, B, C, 0, 0, 0, false⟩ : Pt)) 24)) (⟨1, 536870912, B, C, 0, 0, 0, false⟩ : Pt))
    have HC1 : Hid (Below w.heap.size w ((w1.alloc (.cells (cellsP (⟨1, A, B, C, 0, 0, 0, false⟩ : Pt)) 24)).alloc (.cells (cellsP (⟨1, 536870912, B, C, 0, 0, 0, false⟩ : Pt)) 24))) := Lib.hid ((hB1.alloc hB1.size _).alloc (by have := hB1.size; simp; omega) _)
    rw [World.size_alloc] at HQ1
    unfold cellsP
    dsimp only
    obtain ⟨z0, z1, z2, z3, z4, z5, z6, z7⟩ := HP1.out.cells
    unfold cellsP at z0 z1 z2 z3 z4 z5 z6 z7
    dsimp only at z0 z1 z2 z3 z4 z5 z6 z7
    go_wp2_with fail
    refine (HE1.out _ (by first | exact HL.out | exact HL.out.on HC6.out | exact HL.out.on HC5.out | exact HL.out.on HC4.out | exact HL.out.on HC3.out | exact HL.out.on HC2.out | exact HL.out.on HC1.out | exact HL.out.on (HC1 _).out | exact HL.out.on HC0.out | exact HL.out.on hC5 | exact HL.out.on hC4 | exact HL.out.on hC3 | exact HL.out.on hC2 | exact HL.out.on hB1)).mono ?_
    rintro e w2 ⟨rfl, hB2⟩
    have HC2 := Lib.hid (bseq' HC1.out hB2)
    clear z0 z1 z2 z3 z4 z5 z6 z7
    obtain ⟨z0, z1, z2, z3, z4, z5, z6, z7⟩ := (HQ1.out.on hB2).cells
    dsimp only at z0 z1 z2 z3 z4 z5 z6 z7
    go_wp2_with fail
    refine (HE2.out _ (by first | exact HL.out | exact HL.out.on HC6.out | exact HL.out.on HC5.out | exact HL.out.on HC4.out | exact HL.out.on HC3.out | exact HL.out.on HC2.out | exact HL.out.on HC1.out | exact HL.out.on (HC1 _).out | exact HL.out.on HC0.out | exact HL.out.on hC5 | exact HL.out.on hC4 | exact HL.out.on hC3 | exact HL.out.on hC2 | exact HL.out.on hB1)).mono ?_
    rintro e w3 ⟨rfl, hB3⟩
    have HC3 := Lib.hid (bseq' HC2.out hB3)
    go_wp2_with fail
    refine (known_ptr HT.out _ (by first | exact HL.out | exact HL.out.on HC6.out | exact HL.out.on HC5.out | exact HL.out.on HC4.out | exact HL.out.on HC3.out | exact HL.out.on HC2.out | exact HL.out.on HC1.out | exact HL.out.on (HC1 _).out | exact HL.out.on HC0.out | exact HL.out.on hC5 | exact HL.out.on hC4 | exact HL.out.on hC3 | exact HL.out.on hC2 | exact HL.out.on hB1)).mono ?_
    rintro e w4 ⟨rfl, hB4⟩
    have HC4 := Lib.hid (bseq' HC3.out hB4)
    go_wp2_with fail
    go_ret
    exact ⟨rfl, HC4.out⟩
  · have hE2 : ∀ w, Laid w → Calls Tryd.prog 14 #[.agg (cellsP ⟨1, A, 65536, C, 0, 0, 0, false⟩)] w fun e w' => e = .returned (.tuple #[.int .u64 (encW (bent ⟨1, A, B, C, 0, 0, 0, false⟩ 1)), .int .u16 1]) ∧ Below w.heap.size w w' := fun w L => HE20.out 1 w L
    generalize encW (bent ⟨1, A, B, C, 0, 0, 0, false⟩ 1) = y at *
    have HE2 := Lib.hid hE2
    clear hE2
    go_enter Tryd.func5, Tryd.ntmps5
    go_wp2_with fail
    refine (HCh.out _).mono ?_
    rintro e w1 ⟨rfl, hB1⟩
    have HP1 := Lib.hid ((PBox.new w1 (⟨1, A, B, C, 0, 0, 0, false⟩ : Pt)).on ((Below.refl _ _).alloc (Nat.le_refl _) (.cells (cellsP (⟨1, A, 65536, C, 0, 0, 0, false⟩ : Pt)) 24)))
    have HQ1 := Lib.hid (PBox.new (w1.alloc (.cells (cellsP (⟨1, A, B, C, 0, 0, 0, false⟩ : Pt)) 24)) (⟨1, A, 65536, C, 0, 0, 0, false⟩ : Pt))
    have HC1 : Hid (Below w.heap.size w ((w1.alloc (.cells (cellsP (⟨1, A, B, C, 0, 0, 0, false⟩ : Pt)) 24)).alloc (.cells (cellsP (⟨1, A, 65536, C, 0, 0, 0, false⟩ : Pt)) 24))) := Lib.hid ((hB1.alloc hB1.size _).alloc (by have := hB1.size; simp; omega) _)
    rw [World.size_alloc] at HQ1
    unfold cellsP
    dsimp only
    obtain ⟨z0, z1, z2, z3, z4, z5, z6, z7⟩ := HP1.out.cells
    unfold cellsP at z0 z1 z2 z3 z4 z5 z6 z7
    dsimp only at z0 z1 z2 z3 z4 z5 z6 z7
    go_wp2_with fail
    refine (HE1.out _ (by first | exact HL.out | exact HL.out.on HC6.out | exact HL.out.on HC5.out | exact HL.out.on HC4.out | exact HL.out.on HC3.out | exact HL.out.on HC2.out | exact HL.out.on HC1.out | exact HL.out.on (HC1 _).out | exact HL.out.on HC0.out | exact HL.out.on hC5 | exact HL.out.on hC4 | exact HL.out.on hC3 | exact HL.out.on hC2 | exact HL.out.on hB1)).mono ?_
    rintro e w2 ⟨rfl, hB2⟩
    have HC2 := Lib.hid (bseq' HC1.out hB2)
    clear z0 z1 z2 z3 z4 z5 z6 z7
    obtain ⟨z0, z1, z2, z3, z4, z5, z6, z7⟩ := (HQ1.out.on hB2).cells
    dsimp only at z0 z1 z2 z3 z4 z5 z6 z7
    go_wp2_with fail
    refine (HE2.out _ (by first | exact HL.out | exact HL.out.on HC6.out | exact HL.out.on HC5.out | exact HL.out.on HC4.out | exact HL.out.on HC3.out | exact HL.out.on HC2.out | exact HL.out.on HC1.out | exact HL.out.on (HC1 _).out | exact HL.out.on HC0.out | exact HL.out.on hC5 | exact HL.out.on hC4 | exact HL.out.on hC3 | exact HL.out.on hC2 | exact HL.out.on hB1)).mono ?_
    rintro e w3 ⟨rfl, hB3⟩
    have HC3 := Lib.hid (bseq' HC2.out hB3)
    go_wp2_with fail
    refine (known_ptr HT.out _ (by first | exact HL.out | exact HL.out.on HC6.out | exact HL.out.on HC5.out | exact HL.out.on HC4.out | exact HL.out.on HC3.out | exact HL.out.on HC2.out | exact HL.out.on HC1.out | exact HL.out.on (HC1 _).out | exact HL.out.on HC0.out | exact HL.out.on hC5 | exact HL.out.on hC4 | exact HL.out.on hC3 | exact HL.out.on hC2 | exact HL.out.on hB1)).mono ?_
    rintro e w4 ⟨rfl, hB4⟩
    have HC4 := Lib.hid (bseq' HC3.out hB4)
    go_wp2_with fail
    go_ret
    exact ⟨rfl, HC4.out⟩
  · have hE2 : ∀ w, Laid w → Calls Tryd.prog 14 #[.agg (cellsP ⟨1, A, B, -1, 0, 0, 0, false⟩)] w fun e w' => e = .returned (.tuple #[.int .u64 (encW (bent ⟨1, A, B, C, 0, 0, 0, false⟩ 2)), .int .u16 1]) ∧ Below w.heap.size w w' := fun w L => HE20.out 2 w L
    generalize encW (bent ⟨1, A, B, C, 0, 0, 0, false⟩ 2) = y at *
    have HE2 := Lib.hid hE2
    clear hE2
    go_enter Tryd.func5, Tryd.ntmps5
    go_wp2_with fail
    refine (HCh.out _).mono ?_
    rintro e w1 ⟨rfl, hB1⟩
    have HP1 := Lib.hid ((PBox.new w1 (⟨1, A, B, C, 0, 0, 0, false⟩ : Pt)).on ((Below.refl _ _).alloc (Nat.le_refl _) (.cells (cellsP (⟨1, A, B, -1, 0, 0, 0, false⟩ : Pt)) 24)))
    have HQ1 := Lib.hid (PBox.new (w1.alloc (.cells (cellsP (⟨1, A, B, C, 0, 0, 0, false⟩ : Pt)) 24)) (⟨1, A, B, -1, 0, 0, 0, false⟩ : Pt))
    have HC1 : Hid (Below w.heap.size w ((w1.alloc (.cells (cellsP (⟨1, A, B, C, 0, 0, 0, false⟩ : Pt)) 24)).alloc (.cells (cellsP (⟨1, A, B, -1, 0, 0, 0, false⟩ : Pt)) 24))) := Lib.hid ((hB1.alloc hB1.size _).alloc (by have := hB1.size; simp; omega) _)
    rw [World.size_alloc] at HQ1
    unfold cellsP
    dsimp only
    obtain ⟨z0, z1, z2, z3, z4, z5, z6, z7⟩ := HP1.out.cells
    unfold cellsP at z0 z1 z2 z3 z4 z5 z6 z7
    dsimp only at z0 z1 z2 z3 z4 z5 z6 z7
    go_wp2_with fail
    refine (HE1.out _ (by first | exact HL.out | exact HL.out.on HC6.out | exact HL.out.on HC5.out | exact HL.out.on HC4.out | exact HL.out.on HC3.out | exact HL.out.on HC2.out | exact HL.out.on HC1.out | exact HL.out.on (HC1 _).out | exact HL.out.on HC0.out | exact HL.out.on hC5 | exact HL.out.on hC4 | exact HL.out.on hC3 | exact HL.out.on hC2 | exact HL.out.on hB1)).mono ?_
    rintro e w2 ⟨rfl, hB2⟩
    have HC2 := Lib.hid (bseq' HC1.out hB2)
    clear z0 z1 z2 z3 z4 z5 z6 z7
    obtain ⟨z0, z1, z2, z3, z4, z5, z6, z7⟩ := (HQ1.out.on hB2).cells
    dsimp only at z0 z1 z2 z3 z4 z5 z6 z7
    go_wp2_with fail
    refine (HE2.out _ (by first | exact HL.out | exact HL.out.on HC6.out | exact HL.out.on HC5.out | exact HL.out.on HC4.out | exact HL.out.on HC3.out | exact HL.out.on HC2.out | exact HL.out.on HC1.out | exact HL.out.on (HC1 _).out | exact HL.out.on HC0.out | exact HL.out.on hC5 | exact HL.out.on hC4 | exact HL.out.on hC3 | exact HL.out.on hC2 | exact HL.out.on hB1)).mono ?_
    rintro e w3 ⟨rfl, hB3⟩
    have HC3 := Lib.hid (bseq' HC2.out hB3)
    go_wp2_with fail
    refine (known_ptr HT.out _ (by first | exact HL.out | exact HL.out.on HC6.out | exact HL.out.on HC5.out | exact HL.out.on HC4.out | exact HL.out.on HC3.out | exact HL.out.on HC2.out | exact HL.out.on HC1.out | exact HL.out.on (HC1 _).out | exact HL.out.on HC0.out | exact HL.out.on hC5 | exact HL.out.on hC4 | exact HL.out.on hC3 | exact HL.out.on hC2 | exact HL.out.on hB1)).mono ?_
    rintro e w4 ⟨rfl, hB4⟩
    have HC4 := Lib.hid (bseq' HC3.out hB4)
    go_wp2_with fail
    go_ret
    exact ⟨rfl, HC4.out⟩
  · have hE2 : ∀ w, Laid w → Calls Tryd.prog 14 #[.agg (cellsP ⟨1, A, B, C, 8, 0, 0, false⟩)] w fun e w' => e = .returned (.tuple #[.int .u64 (encW (bent ⟨1, A, B, C, 0, 0, 0, false⟩ 3)), .int .u16 1]) ∧ Below w.heap.size w w' := fun w L => HE20.out 3 w L
    generalize encW (bent ⟨1, A, B, C, 0, 0, 0, false⟩ 3) = y at *
    have HE2 := Lib.hid hE2
    clear hE2
    go_enter Tryd.func5, Tryd.ntmps5
    go_wp2_with fail
    refine (HCh.out _).mono ?_
    rintro e w1 ⟨rfl, hB1⟩
    have HP1 := Lib.hid ((PBox.new w1 (⟨1, A, B, C, 0, 0, 0, false⟩ : Pt)).on ((Below.refl _ _).alloc (Nat.le_refl _) (.cells (cellsP (⟨1, A, B, C, 8, 0, 0, false⟩ : Pt)) 24)))
    have HQ1 := Lib.hid (PBox.new (w1.alloc (.cells (cellsP (⟨1, A, B, C, 0, 0, 0, false⟩ : Pt)) 24)) (⟨1, A, B, C, 8, 0, 0, false⟩ : Pt))
    have HC1 : Hid (Below w.heap.size w ((w1.alloc (.cells (cellsP (⟨1, A, B, C, 0, 0, 0, false⟩ : Pt)) 24)).alloc (.cells (cellsP (⟨1, A, B, C, 8, 0, 0, false⟩ : Pt)) 24))) := Lib.hid ((hB1.alloc hB1.size _).alloc (by have := hB1.size; simp; omega) _)
    rw [World.size_alloc] at HQ1
    unfold cellsP
    dsimp only
    obtain ⟨z0, z1, z2, z3, z4, z5, z6, z7⟩ := HP1.out.cells
    unfold cellsP at z0 z1 z2 z3 z4 z5 z6 z7
    dsimp only at z0 z1 z2 z3 z4 z5 z6 z7
    go_wp2_with fail
    refine (HE1.out _ (by first | exact HL.out | exact HL.out.on HC6.out | exact HL.out.on HC5.out | exact HL.out.on HC4.out | exact HL.out.on HC3.out | exact HL.out.on HC2.out | exact HL.out.on HC1.out | exact HL.out.on (HC1 _).out | exact HL.out.on HC0.out | exact HL.out.on hC5 | exact HL.out.on hC4 | exact HL.out.on hC3 | exact HL.out.on hC2 | exact HL.out.on hB1)).mono ?_
    rintro e w2 ⟨rfl, hB2⟩
    have HC2 := Lib.hid (bseq' HC1.out hB2)
    clear z0 z1 z2 z3 z4 z5 z6 z7
    obtain ⟨z0, z1, z2, z3, z4, z5, z6, z7⟩ := (HQ1.out.on hB2).cells
    dsimp only at z0 z1 z2 z3 z4 z5 z6 z7
    go_wp2_with fail
    refine (HE2.out _ (by first | exact HL.out | exact HL.out.on HC6.out | exact HL.out.on HC5.out | exact HL.out.on HC4.out | exact HL.out.on HC3.out | exact HL.out.on HC2.out | exact HL.out.on HC1.out | exact HL.out.on (HC1 _).out | exact HL.out.on HC0.out | exact HL.out.on hC5 | exact HL.out.on hC4 | exact HL.out.on hC3 | exact HL.out.on hC2 | exact HL.out.on hB1)).mono ?_
    rintro e w3 ⟨rfl, hB3⟩
    have HC3 := Lib.hid (bseq' HC2.out hB3)
    go_wp2_with fail
    refine (known_ptr HT.out _ (by first | exact HL.out | exact HL.out.on HC6.out | exact HL.out.on HC5.out | exact HL.out.on HC4.out | exact HL.out.on HC3.out | exact HL.out.on HC2.out | exact HL.out.on HC1.out | exact HL.out.on (HC1 _).out | exact HL.out.on HC0.out | exact HL.out.on hC5 | exact HL.out.on hC4 | exact HL.out.on hC3 | exact HL.out.on hC2 | exact HL.out.on hB1)).mono ?_
    rintro e w4 ⟨rfl, hB4⟩
    have HC4 := Lib.hid (bseq' HC3.out hB4)
    go_wp2_with fail
    go_ret
    exact ⟨rfl, HC4.out⟩
  · have hE2 : ∀ w, Laid w → Calls Tryd.prog 14 #[.agg (cellsP ⟨1, A, B, C, 0, 536870912, 0, false⟩)] w fun e w' => e = .returned (.tuple #[.int .u64 (encW (bent ⟨1, A, B, C, 0, 0, 0, false⟩ 4)), .int .u16 1]) ∧ Below w.heap.size w w' := fun w L => HE20.out 4 w L
    generalize encW (bent ⟨1, A, B, C, 0, 0, 0, false⟩ 4) = y at *
    have HE2 := Lib.hid hE2
    clear hE2
    go_enter Tryd.func5, Tryd.ntmps5
    go_wp2_with fail
    refine (HCh.out _).mono ?_
    rintro e w1 ⟨rfl, hB1⟩
    have HP1 := Lib.hid ((PBox.new w1 (⟨1, A, B, C, 0, 0, 0, false⟩ : Pt)).on ((Below.refl _ _).alloc (Nat.le_refl _) (.cells (cellsP (⟨1, A, B, C, 0, 536870912, 0, false⟩ : Pt)) 24)))
    have HQ1 := Lib.hid (PBox.new (w1.alloc (.cells (cellsP (⟨1, A, B, C, 0, 0, 0, false⟩ : Pt)) 24)) (⟨1, A, B, C, 0, 536870912, 0, false⟩ : Pt))
    have HC1 : Hid (Below w.heap.size w ((w1.alloc (.cells (cellsP (⟨1, A, B, C, 0, 0, 0, false⟩ : Pt)) 24)).alloc (.cells (cellsP (⟨1, A, B, C, 0, 536870912, 0, false⟩ : Pt)) 24))) := Lib.hid ((hB1.alloc hB1.size _).alloc (by have := hB1.size; simp; omega) _)
    rw [World.size_alloc] at HQ1
    unfold cellsP
    dsimp only
    obtain ⟨z0, z1, z2, z3, z4, z5, z6, z7⟩ := HP1.out.cells
    unfold cellsP at z0 z1 z2 z3 z4 z5 z6 z7
    dsimp only at z0 z1 z2 z3 z4 z5 z6 z7
    go_wp2_with fail
    refine (HE1.out _ (by first | exact HL.out | exact HL.out.on HC6.out | exact HL.out.on HC5.out | exact HL.out.on HC4.out | exact HL.out.on HC3.out | exact HL.out.on HC2.out | exact HL.out.on HC1.out | exact HL.out.on (HC1 _).out | exact HL.out.on HC0.out | exact HL.out.on hC5 | exact HL.out.on hC4 | exact HL.out.on hC3 | exact HL.out.on hC2 | exact HL.out.on hB1)).mono ?_
    rintro e w2 ⟨rfl, hB2⟩
    have HC2 := Lib.hid (bseq' HC1.out hB2)
    clear z0 z1 z2 z3 z4 z5 z6 z7
    obtain ⟨z0, z1, z2, z3, z4, z5, z6, z7⟩ := (HQ1.out.on hB2).cells
    dsimp only at z0 z1 z2 z3 z4 z5 z6 z7
    go_wp2_with fail
    refine (HE2.out _ (by first | exact HL.out | exact HL.out.on HC6.out | exact HL.out.on HC5.out | exact HL.out.on HC4.out | exact HL.out.on HC3.out | exact HL.out.on HC2.out | exact HL.out.on HC1.out | exact HL.out.on (HC1 _).out | exact HL.out.on HC0.out | exact HL.out.on hC5 | exact HL.out.on hC4 | exact HL.out.on hC3 | exact HL.out.on hC2 | exact HL.out.on hB1)).mono ?_
    rintro e w3 ⟨rfl, hB3⟩
    have HC3 := Lib.hid (bseq' HC2.out hB3)
    go_wp2_with fail
    refine (known_ptr HT.out _ (by first | exact HL.out | exact HL.out.on HC6.out | exact HL.out.on HC5.out | exact HL.out.on HC4.out | exact HL.out.on HC3.out | exact HL.out.on HC2.out | exact HL.out.on HC1.out | exact HL.out.on (HC1 _).out | exact HL.out.on HC0.out | exact HL.out.on hC5 | exact HL.out.on hC4 | exact HL.out.on hC3 | exact HL.out.on hC2 | exact HL.out.on hB1)).mono ?_
    rintro e w4 ⟨rfl, hB4⟩
    have HC4 := Lib.hid (bseq' HC3.out hB4)
    go_wp2_with fail
    go_ret
    exact ⟨rfl, HC4.out⟩
  · have hE2 : ∀ w, Laid w → Calls Tryd.prog 14 #[.agg (cellsP ⟨1, A, B, C, 0, 0, 4294967296, false⟩)] w fun e w' => e = .returned (.tuple #[.int .u64 (encW (bent ⟨1, A, B, C, 0, 0, 0, false⟩ 5)), .int .u16 1]) ∧ Below w.heap.size w w' := fun w L => HE20.out 5 w L
    generalize encW (bent ⟨1, A, B, C, 0, 0, 0, false⟩ 5) = y at *
    have HE2 := Lib.hid hE2
    clear hE2
    go_enter Tryd.func5, Tryd.ntmps5
    go_wp2_with fail
    refine (HCh.out _).mono ?_
    rintro e w1 ⟨rfl, hB1⟩
    have HP1 := Lib.hid ((PBox.new w1 (⟨1, A, B, C, 0, 0, 0, false⟩ : Pt)).on ((Below.refl _ _).alloc (Nat.le_refl _) (.cells (cellsP (⟨1, A, B, C, 0, 0, 4294967296, false⟩ : Pt)) 24)))
    have HQ1 := Lib.hid (PBox.new (w1.alloc (.cells (cellsP (⟨1, A, B, C, 0, 0, 0, false⟩ : Pt)) 24)) (⟨1, A, B, C, 0, 0, 4294967296, false⟩ : Pt))
    have HC1 : Hid (Below w.heap.size w ((w1.alloc (.cells (cellsP (⟨1, A, B, C, 0, 0, 0, false⟩ : Pt)) 24)).alloc (.cells (cellsP (⟨1, A, B, C, 0, 0, 4294967296, false⟩ : Pt)) 24))) := Lib.hid ((hB1.alloc hB1.size _).alloc (by have := hB1.size; simp; omega) _)
    rw [World.size_alloc] at HQ1
    unfold cellsP
    dsimp only
    obtain ⟨z0, z1, z2, z3, z4, z5, z6, z7⟩ := HP1.out.cells
    unfold cellsP at z0 z1 z2 z3 z4 z5 z6 z7
    dsimp only at z0 z1 z2 z3 z4 z5 z6 z7
    go_wp2_with fail
    refine (HE1.out _ (by first | exact HL.out | exact HL.out.on HC6.out | exact HL.out.on HC5.out | exact HL.out.on HC4.out | exact HL.out.on HC3.out | exact HL.out.on HC2.out | exact HL.out.on HC1.out | exact HL.out.on (HC1 _).out | exact HL.out.on HC0.out | exact HL.out.on hC5 | exact HL.out.on hC4 | exact HL.out.on hC3 | exact HL.out.on hC2 | exact HL.out.on hB1)).mono ?_
    rintro e w2 ⟨rfl, hB2⟩
    have HC2 := Lib.hid (bseq' HC1.out hB2)
    clear z0 z1 z2 z3 z4 z5 z6 z7
    obtain ⟨z0, z1, z2, z3, z4, z5, z6, z7⟩ := (HQ1.out.on hB2).cells
    dsimp only at z0 z1 z2 z3 z4 z5 z6 z7
    go_wp2_with fail
    refine (HE2.out _ (by first | exact HL.out | exact HL.out.on HC6.out | exact HL.out.on HC5.out | exact HL.out.on HC4.out | exact HL.out.on HC3.out | exact HL.out.on HC2.out | exact HL.out.on HC1.out | exact HL.out.on (HC1 _).out | exact HL.out.on HC0.out | exact HL.out.on hC5 | exact HL.out.on hC4 | exact HL.out.on hC3 | exact HL.out.on hC2 | exact HL.out.on hB1)).mono ?_
    rintro e w3 ⟨rfl, hB3⟩
    have HC3 := Lib.hid (bseq' HC2.out hB3)
    go_wp2_with fail
    refine (known_ptr HT.out _ (by first | exact HL.out | exact HL.out.on HC6.out | exact HL.out.on HC5.out | exact HL.out.on HC4.out | exact HL.out.on HC3.out | exact HL.out.on HC2.out | exact HL.out.on HC1.out | exact HL.out.on (HC1 _).out | exact HL.out.on HC0.out | exact HL.out.on hC5 | exact HL.out.on hC4 | exact HL.out.on hC3 | exact HL.out.on hC2 | exact HL.out.on hB1)).mono ?_
    rintro e w4 ⟨rfl, hB4⟩
    have HC4 := Lib.hid (bseq' HC3.out hB4)
    go_wp2_with fail
    go_ret
    exact ⟨rfl, HC4.out⟩

set_option maxRecDepth 100000 in
set_option maxHeartbeats 8000000 in
theorem fields_2 (T : PtrOK) (a b c k wh : Nat) (w : World) (A B C : Int) (hp : OkP ⟨2, A, 0, 0, B, C, 0, false⟩) (hz : eqP ⟨2, A, 0, 0, B, C, 0, false⟩ ⟨1, 0, 0, 0, 0, 0, 0, false⟩ = false) (m3 : (k : Int) % 3 = 1) (hwh : wh < 256)
    (hc : ∀ w, Calls Tryd.prog 9 #[.int .u32 a, .int .u32 b, .int .u32 c, .int .u8 2] w fun e w' => e = .returned (.agg (cellsP ⟨2, A, 0, 0, B, C, 0, false⟩)) ∧ Below w.heap.size w w') (L : Laid w) :
    Calls Tryd.prog 5 #[.int .u32 a, .int .u32 b, .int .u32 c, .int .u8 k, .int .u8 wh] w fun e w' => e = .returned (.bool true) ∧ Below w.heap.size w w' := by
  have HL := Lib.hid L
  clear L
  have HT := Lib.hid T
  have HCh := Lib.hid hc
  have hE1 : ∀ w, Laid w → Calls Tryd.prog 14 #[.agg (cellsP ⟨2, A, 0, 0, B, C, 0, false⟩)] w fun e w' => e = .returned (.tuple #[.int .u64 (encW ⟨2, A, 0, 0, B, C, 0, false⟩), .int .u16 0]) ∧ Below w.heap.size w w' := fun w L => by
    have := T.enc ⟨2, A, 0, 0, B, C, 0, false⟩ w (okp_in hp) L
    rwa [enc_yes hp] at this
  have hE2 : ∀ i w, Laid w → Calls Tryd.prog 14 #[.agg (cellsP (bent ⟨2, A, 0, 0, B, C, 0, false⟩ i))] w fun e w' => e = .returned (.tuple #[.int .u64 (encW (bent ⟨2, A, 0, 0, B, C, 0, false⟩ i)), .int .u16 1]) ∧ Below w.heap.size w w' := fun i w L => by
    have := T.enc (bent ⟨2, A, 0, 0, B, C, 0, false⟩ i) w (bent_in (okp_in hp) i) L
    rwa [enc_no (bent_no (by dsimp only; omega) i)] at this
  generalize encW ⟨2, A, 0, 0, B, C, 0, false⟩ = x at *
  have HE1 := Lib.hid hE1
  have HE20 := Lib.hid hE2
  have hne := fun w => run_eql_P w ⟨2, A, 0, 0, B, C, 0, false⟩ ⟨1, 0, 0, 0, 0, 0, 0, false⟩
  rw [hz] at hne
  have hgd := fun w op x y xs ys => run_eqGuard_agg (P := Tryd.prog) w op 24 x y xs ys (by kernel_rfl)
  unfold cellsP at hne
  dsimp only at hne
  clear T hp hz hc hE1 hE2
  rcases (show (wh : Int) % 6 = 0 ∨ (wh : Int) % 6 = 1 ∨ (wh : Int) % 6 = 2 ∨ (wh : Int) % 6 = 3 ∨ (wh : Int) % 6 = 4 ∨ (wh : Int) % 6 = 5 by omega) with m6 | m6 | m6 | m6 | m6 | m6
  · have hE2 : ∀ w, Laid w → Calls Tryd.prog 14 #[.agg (cellsP ⟨2, 536870912, 0, 0, B, C, 0, false⟩)] w fun e w' => e = .returned (.tuple #[.int .u64 (encW (bent ⟨2, A, 0, 0, B, C, 0, false⟩ 0)), .int .u16 1]) ∧ Below w.heap.size w w' := fun w L => HE20.out 0 w L
    generalize encW (bent ⟨2, A, 0, 0, B, C, 0, false⟩ 0) = y at *
    have HE2 := Lib.hid hE2
    clear hE2
    go_enter Tryd.func5, Tryd.ntmps5
    go_wp2_with fail
    refine (HCh.out _).mono ?_
    rintro e w1 ⟨rfl, hB1⟩
    have HP1 := Lib.hid ((PBox.new w1 (⟨2, A, 0, 0, B, C, 0, false⟩ : Pt)).on ((Below.refl _ _).alloc (Nat.le_refl _) (.cells (cellsP (⟨2, 536870912, 0, 0, B, C, 0, false⟩ : Pt)) 24)))
    have HQ1 := Lib.hid (PBox.new (w1.alloc (.cells (cellsP (⟨2, A, 0, 0, B, C, 0, false⟩ : Pt)) 24)) (⟨2, 536870912, 0, 0, B, C, 0, false⟩ : Pt))
    have HC1 : Hid (Below w.heap.size w ((w1.alloc (.cells (cellsP (⟨2, A, 0, 0, B, C, 0, false⟩ : Pt)) 24)).alloc (.cells (cellsP (⟨2, 536870912, 0, 0, B, C, 0, false⟩ : Pt)) 24))) := Lib.hid ((hB1.alloc hB1.size _).alloc (by have := hB1.size; simp; omega) _)
    rw [World.size_alloc] at HQ1
    unfold cellsP
    dsimp only
    obtain ⟨z0, z1, z2, z3, z4, z5, z6, z7⟩ := HP1.out.cells
    unfold cellsP at z0 z1 z2 z3 z4 z5 z6 z7
    dsimp only at z0 z1 z2 z3 z4 z5 z6 z7
    go_wp2_with fail
    refine (HE1.out _ (by first | exact HL.out | exact HL.out.on HC6.out | exact HL.out.on HC5.out | exact HL.out.on HC4.out | exact HL.out.on HC3.out | exact HL.out.on HC2.out | exact HL.out.on HC1.out | exact HL.out.on (HC1 _).out | exact HL.out.on HC0.out | exact HL.out.on hC5 | exact HL.out.on hC4 | exact HL.out.on hC3 | exact HL.out.on hC2 | exact HL.out.on hB1)).mono ?_
    rintro e w2 ⟨rfl, hB2⟩
    have HC2 := Lib.hid (bseq' HC1.out hB2)
    clear z0 z1 z2 z3 z4 z5 z6 z7
    obtain ⟨z0, z1, z2, z3, z4, z5, z6, z7⟩ := (HQ1.out.on hB2).cells
    dsimp only at z0 z1 z2 z3 z4 z5 z6 z7
    go_wp2_with fail
    refine (HE2.out _ (by first | exact HL.out | exact HL.out.on HC6.out | exact HL.out.on HC5.out | exact HL.out.on HC4.out | exact HL.out.on HC3.out | exact HL.out.on HC2.out | exact HL.out.on HC1.out | exact HL.out.on (HC1 _).out | exact HL.out.on HC0.out | exact HL.out.on hC5 | exact HL.out.on hC4 | exact HL.out.on hC3 | exact HL.out.on hC2 | exact HL.out.on hB1)).mono ?_
    rintro e w3 ⟨rfl, hB3⟩
    have HC3 := Lib.hid (bseq' HC2.out hB3)
    go_wp2_with fail
    refine (known_ptr HT.out _ (by first | exact HL.out | exact HL.out.on HC6.out | exact HL.out.on HC5.out | exact HL.out.on HC4.out | exact HL.out.on HC3.out | exact HL.out.on HC2.out | exact HL.out.on HC1.out | exact HL.out.on (HC1 _).out | exact HL.out.on HC0.out | exact HL.out.on hC5 | exact HL.out.on hC4 | exact HL.out.on hC3 | exact HL.out.on hC2 | exact HL.out.on hB1)).mono ?_
    rintro e w4 ⟨rfl, hB4⟩
    have HC4 := Lib.hid (bseq' HC3.out hB4)
    go_wp2_with fail
    go_ret
    exact ⟨rfl, HC4.out⟩
  · have hE2 : ∀ w, Laid w → Calls Tryd.prog 14 #[.agg (cellsP ⟨2, A, 65536, 0, B, C, 0, false⟩)] w fun e w' => e = .returned (.tuple #[.int .u64 (encW (bent ⟨2, A, 0, 0, B, C, 0, false⟩ 1)), .int .u16 1]) ∧ Below w.heap.size w w' := fun w L => HE20.out 1 w L
    generalize encW (bent ⟨2, A, 0, 0, B, C, 0, false⟩ 1) = y at *
    have HE2 := Lib.hid hE2
    clear hE2
    go_enter Tryd.func5, Tryd.ntmps5
    go_wp2_with fail
    refine (HCh.out _).mono ?_
    rintro e w1 ⟨rfl, hB1⟩
    have HP1 := Lib.hid ((PBox.new w1 (⟨2, A, 0, 0, B, C, 0, false⟩ : Pt)).on ((Below.refl _ _).alloc (Nat.le_refl _) (.cells (cellsP (⟨2, A, 65536, 0, B, C, 0, false⟩ : Pt)) 24)))
    have HQ1 := Lib.hid (PBox.new (w1.alloc (.cells (cellsP (⟨2, A, 0, 0, B, C, 0, false⟩ : Pt)) 24)) (⟨2, A, 65536, 0, B, C, 0, false⟩ : Pt))
    have HC1 : Hid (Below w.heap.size w ((w1.alloc (.cells (cellsP (⟨2, A, 0, 0, B, C, 0, false⟩ : Pt)) 24)).alloc (.cells (cellsP (⟨2, A, 65536, 0, B, C, 0, false⟩ : Pt)) 24))) := Lib.hid ((hB1.alloc hB1.size _).alloc (by have := hB1.size; simp; omega) _)
    rw [World.size_alloc] at HQ1
    unfold cellsP
    dsimp only
    obtain ⟨z0, z1, z2, z3, z4, z5, z6, z7⟩ := HP1.out.cells
    unfold cellsP at z0 z1 z2 z3 z4 z5 z6 z7
    dsimp only at z0 z1 z2 z3 z4 z5 z6 z7
    go_wp2_with fail
    refine (HE1.out _ (by first | exact HL.out | exact HL.out.on HC6.out | exact HL.out.on HC5.out | exact HL.out.on HC4.out | exact HL.out.on HC3.out | exact HL.out.on HC2.out | exact HL.out.on HC1.out | exact HL.out.on (HC1 _).out | exact HL.out.on HC0.out | exact HL.out.on hC5 | exact HL.out.on hC4 | exact HL.out.on hC3 | exact HL.out.on hC2 | exact HL.out.on hB1)).mono ?_
    rintro e w2 ⟨rfl, hB2⟩
    have HC2 := Lib.hid (bseq' HC1.out hB2)
    clear z0 z1 z2 z3 z4 z5 z6 z7
    obtain ⟨z0, z1, z2, z3, z4, z5, z6, z7⟩ := (HQ1.out.on hB2).cells
    dsimp only at z0 z1 z2 z3 z4 z5 z6 z7
    go_wp2_with fail
    refine (HE2.out _ (by first | exact HL.out | exact HL.out.on HC6.out | exact HL.out.on HC5.out | exact HL.out.on HC4.out | exact HL.out.on HC3.out | exact HL.out.on HC2.out | exact HL.out.on HC1.out | exact HL.out.on (HC1 _).out | exact HL.out.on HC0.out | exact HL.out.on hC5 | exact HL.out.on hC4 | exact HL.out.on hC3 | exact HL.out.on hC2 | exact HL.out.on hB1)).mono ?_
    rintro e w3 ⟨rfl, hB3⟩
    have HC3 := Lib.hid (bseq' HC2.out hB3)
    go_wp2_with fail
    refine (known_ptr HT.out _ (by first | exact HL.out | exact HL.out.on HC6.out | exact HL.out.on HC5.out | exact HL.out.on HC4.out | exact HL.out.on HC3.out | exact HL.out.on HC2.out | exact HL.out.on HC1.out | exact HL.out.on (HC1 _).out | exact HL.out.on HC0.out | exact HL.out.on hC5 | exact HL.out.on hC4 | exact HL.out.on hC3 | exact HL.out.on hC2 | exact HL.out.on hB1)).mono ?_
    rintro e w4 ⟨rfl, hB4⟩
    have HC4 := Lib.hid (bseq' HC3.out hB4)
    go_wp2_with fail
    go_ret
    exact ⟨rfl, HC4.out⟩
  · have hE2 : ∀ w, Laid w → Calls Tryd.prog 14 #[.agg (cellsP ⟨2, A, 0, -1, B, C, 0, false⟩)] w fun e w' => e = .returned (.tuple #[.int .u64 (encW (bent ⟨2, A, 0, 0, B, C, 0, false⟩ 2)), .int .u16 1]) ∧ Below w.heap.size w w' := fun w L => HE20.out 2 w L
    generalize encW (bent ⟨2, A, 0, 0, B, C, 0, false⟩ 2) = y at *
    have HE2 := Lib.hid hE2
    clear hE2
    go_enter Tryd.func5, Tryd.ntmps5
    go_wp2_with fail
    refine (HCh.out _).mono ?_
    rintro e w1 ⟨rfl, hB1⟩
    have HP1 := Lib.hid ((PBox.new w1 (⟨2, A, 0, 0, B, C, 0, false⟩ : Pt)).on ((Below.refl _ _).alloc (Nat.le_refl _) (.cells (cellsP (⟨2, A, 0, -1, B, C, 0, false⟩ : Pt)) 24)))
    have HQ1 := Lib.hid (PBox.new (w1.alloc (.cells (cellsP (⟨2, A, 0, 0, B, C, 0, false⟩ : Pt)) 24)) (⟨2, A, 0, -1, B, C, 0, false⟩ : Pt))
    have HC1 : Hid (Below w.heap.size w ((w1.alloc (.cells (cellsP (⟨2, A, 0, 0, B, C, 0, false⟩ : Pt)) 24)).alloc (.cells (cellsP (⟨2, A, 0, -1, B, C, 0, false⟩ : Pt)) 24))) := Lib.hid ((hB1.alloc hB1.size _).alloc (by have := hB1.size; simp; omega) _)
    rw [World.size_alloc] at HQ1
    unfold cellsP
    dsimp only
    obtain ⟨z0, z1, z2, z3, z4, z5, z6, z7⟩ := HP1.out.cells
    unfold cellsP at z0 z1 z2 z3 z4 z5 z6 z7
    dsimp only at z0 z1 z2 z3 z4 z5 z6 z7
    go_wp2_with fail
    refine (HE1.out _ (by first | exact HL.out | exact HL.out.on HC6.out | exact HL.out.on HC5.out | exact HL.out.on HC4.out | exact HL.out.on HC3.out | exact HL.out.on HC2.out | exact HL.out.on HC1.out | exact HL.out.on (HC1 _).out | exact HL.out.on HC0.out | exact HL.out.on hC5 | exact HL.out.on hC4 | exact HL.out.on hC3 | exact HL.out.on hC2 | exact HL.out.on hB1)).mono ?_
    rintro e w2 ⟨rfl, hB2⟩
    have HC2 := Lib.hid (bseq' HC1.out hB2)
    clear z0 z1 z2 z3 z4 z5 z6 z7
    obtain ⟨z0, z1, z2, z3, z4, z5, z6, z7⟩ := (HQ1.out.on hB2).cells
    dsimp only at z0 z1 z2 z3 z4 z5 z6 z7
    go_wp2_with fail
    refine (HE2.out _ (by first | exact HL.out | exact HL.out.on HC6.out | exact HL.out.on HC5.out | exact HL.out.on HC4.out | exact HL.out.on HC3.out | exact HL.out.on HC2.out | exact HL.out.on HC1.out | exact HL.out.on (HC1 _).out | exact HL.out.on HC0.out | exact HL.out.on hC5 | exact HL.out.on hC4 | exact HL.out.on hC3 | exact HL.out.on hC2 | exact HL.out.on hB1)).mono ?_
    rintro e w3 ⟨rfl, hB3⟩
    have HC3 := Lib.hid (bseq' HC2.out hB3)
    go_wp2_with fail
    refine (known_ptr HT.out _ (by first | exact HL.out | exact HL.out.on HC6.out | exact HL.out.on HC5.out | exact HL.out.on HC4.out | exact HL.out.on HC3.out | exact HL.out.on HC2.out | exact HL.out.on HC1.out | exact HL.out.on (HC1 _).out | exact HL.out.on HC0.out | exact HL.out.on hC5 | exact HL.out.on hC4 | exact HL.out.on hC3 | exact HL.out.on hC2 | exact HL.out.on hB1)).mono ?_
    rintro e w4 ⟨rfl, hB4⟩
    have HC4 := Lib.hid (bseq' HC3.out hB4)
    go_wp2_with fail
    go_ret
    exact ⟨rfl, HC4.out⟩
  · have hE2 : ∀ w, Laid w → Calls Tryd.prog 14 #[.agg (cellsP ⟨2, A, 0, 0, 8, C, 0, false⟩)] w fun e w' => e = .returned (.tuple #[.int .u64 (encW (bent ⟨2, A, 0, 0, B, C, 0, false⟩ 3)), .int .u16 1]) ∧ Below w.heap.size w w' := fun w L => HE20.out 3 w L
    generalize encW (bent ⟨2, A, 0, 0, B, C, 0, false⟩ 3) = y at *
    have HE2 := Lib.hid hE2
    clear hE2
    go_enter Tryd.func5, Tryd.ntmps5
    go_wp2_with fail
    refine (HCh.out _).mono ?_
    rintro e w1 ⟨rfl, hB1⟩
    have HP1 := Lib.hid ((PBox.new w1 (⟨2, A, 0, 0, B, C, 0, false⟩ : Pt)).on ((Below.refl _ _).alloc (Nat.le_refl _) (.cells (cellsP (⟨2, A, 0, 0, 8, C, 0, false⟩ : Pt)) 24)))
    have HQ1 := Lib.hid (PBox.new (w1.alloc (.cells (cellsP (⟨2, A, 0, 0, B, C, 0, false⟩ : Pt)) 24)) (⟨2, A, 0, 0, 8, C, 0, false⟩ : Pt))
    have HC1 : Hid (Below w.heap.size w ((w1.alloc (.cells (cellsP (⟨2, A, 0, 0, B, C, 0, false⟩ : Pt)) 24)).alloc (.cells (cellsP (⟨2, A, 0, 0, 8, C, 0, false⟩ : Pt)) 24))) := Lib.hid ((hB1.alloc hB1.size _).alloc (by have := hB1.size; simp; omega) _)
    rw [World.size_alloc] at HQ1
    unfold cellsP
    dsimp only
    obtain ⟨z0, z1, z2, z3, z4, z5, z6, z7⟩ := HP1.out.cells
    unfold cellsP at z0 z1 z2 z3 z4 z5 z6 z7
    dsimp only at z0 z1 z2 z3 z4 z5 z6 z7
    go_wp2_with fail
    refine (HE1.out _ (by first | exact HL.out | exact HL.out.on HC6.out | exact HL.out.on HC5.out | exact HL.out.on HC4.out | exact HL.out.on HC3.out | exact HL.out.on HC2.out | exact HL.out.on HC1.out | exact HL.out.on (HC1 _).out | exact HL.out.on HC0.out | exact HL.out.on hC5 | exact HL.out.on hC4 | exact HL.out.on hC3 | exact HL.out.on hC2 | exact HL.out.on hB1)).mono ?_
    rintro e w2 ⟨rfl, hB2⟩
    have HC2 := Lib.hid (bseq' HC1.out hB2)
    clear z0 z1 z2 z3 z4 z5 z6 z7
    obtain ⟨z0, z1, z2, z3, z4, z5, z6, z7⟩ := (HQ1.out.on hB2).cells
    dsimp only at z0 z1 z2 z3 z4 z5 z6 z7
    go_wp2_with fail
    refine (HE2.out _ (by first | exact HL.out | exact HL.out.on HC6.out | exact HL.out.on HC5.out | exact HL.out.on HC4.out | exact HL.out.on HC3.out | exact HL.out.on HC2.out | exact HL.out.on HC1.out | exact HL.out.on (HC1 _).out | exact HL.out.on HC0.out | exact HL.out.on hC5 | exact HL.out.on hC4 | exact HL.out.on hC3 | exact HL.out.on hC2 | exact HL.out.on hB1)).mono ?_
    rintro e w3 ⟨rfl, hB3⟩
    have HC3 := Lib.hid (bseq' HC2.out hB3)
    go_wp2_with fail
    refine (known_ptr HT.out _ (by first | exact HL.out | exact HL.out.on HC6.out | exact HL.out.on HC5.out | exact HL.out.on HC4.out | exact HL.out.on HC3.out | exact HL.out.on HC2.out | exact HL.out.on HC1.out | exact HL.out.on (HC1 _).out | exact HL.out.on HC0.out | exact HL.out.on hC5 | exact HL.out.on hC4 | exact HL.out.on hC3 | exact HL.out.on hC2 | exact HL.out.on hB1)).mono ?_
    rintro e w4 ⟨rfl, hB4⟩
    have HC4 := Lib.hid (bseq' HC3.out hB4)
    go_wp2_with fail
    go_ret
    exact ⟨rfl, HC4.out⟩
  · have hE2 : ∀ w, Laid w → Calls Tryd.prog 14 #[.agg (cellsP ⟨2, A, 0, 0, B, 536870912, 0, false⟩)] w fun e w' => e = .returned (.tuple #[.int .u64 (encW (bent ⟨2, A, 0, 0, B, C, 0, false⟩ 4)), .int .u16 1]) ∧ Below w.heap.size w w' := fun w L => HE20.out 4 w L
    generalize encW (bent ⟨2, A, 0, 0, B, C, 0, false⟩ 4) = y at *
    have HE2 := Lib.hid hE2
    clear hE2
    go_enter Tryd.func5, Tryd.ntmps5
    go_wp2_with fail
    refine (HCh.out _).mono ?_
    rintro e w1 ⟨rfl, hB1⟩
    have HP1 := Lib.hid ((PBox.new w1 (⟨2, A, 0, 0, B, C, 0, false⟩ : Pt)).on ((Below.refl _ _).alloc (Nat.le_refl _) (.cells (cellsP (⟨2, A, 0, 0, B, 536870912, 0, false⟩ : Pt)) 24)))
    have HQ1 := Lib.hid (PBox.new (w1.alloc (.cells (cellsP (⟨2, A, 0, 0, B, C, 0, false⟩ : Pt)) 24)) (⟨2, A, 0, 0, B, 536870912, 0, false⟩ : Pt))
    have HC1 : Hid (Below w.heap.size w ((w1.alloc (.cells (cellsP (⟨2, A, 0, 0, B, C, 0, false⟩ : Pt)) 24)).alloc (.cells (cellsP (⟨2, A, 0, 0, B, 536870912, 0, false⟩ : Pt)) 24))) := Lib.hid ((hB1.alloc hB1.size _).alloc (by have := hB1.size; simp; omega) _)
    rw [World.size_alloc] at HQ1
    unfold cellsP
    dsimp only
    obtain ⟨z0, z1, z2, z3, z4, z5, z6, z7⟩ := HP1.out.cells
    unfold cellsP at z0 z1 z2 z3 z4 z5 z6 z7
    dsimp only at z0 z1 z2 z3 z4 z5 z6 z7
    go_wp2_with fail
    refine (HE1.out _ (by first | exact HL.out | exact HL.out.on HC6.out | exact HL.out.on HC5.out | exact HL.out.on HC4.out | exact HL.out.on HC3.out | exact HL.out.on HC2.out | exact HL.out.on HC1.out | exact HL.out.on (HC1 _).out | exact HL.out.on HC0.out | exact HL.out.on hC5 | exact HL.out.on hC4 | exact HL.out.on hC3 | exact HL.out.on hC2 | exact HL.out.on hB1)).mono ?_
    rintro e w2 ⟨rfl, hB2⟩
    have HC2 := Lib.hid (bseq' HC1.out hB2)
    clear z0 z1 z2 z3 z4 z5 z6 z7
    obtain ⟨z0, z1, z2, z3, z4, z5, z6, z7⟩ := (HQ1.out.on hB2).cells
    dsimp only at z0 z1 z2 z3 z4 z5 z6 z7
    go_wp2_with fail
    refine (HE2.out _ (by first | exact HL.out | exact HL.out.on HC6.out | exact HL.out.on HC5.out | exact HL.out.on HC4.out | exact HL.out.on HC3.out | exact HL.out.on HC2.out | exact HL.out.on HC1.out | exact HL.out.on (HC1 _).out | exact HL.out.on HC0.out | exact HL.out.on hC5 | exact HL.out.on hC4 | exact HL.out.on hC3 | exact HL.out.on hC2 | exact HL.out.on hB1)).mono ?_
    rintro e w3 ⟨rfl, hB3⟩
    have HC3 := Lib.hid (bseq' HC2.out hB3)
    go_wp2_with fail
    refine (known_ptr HT.out _ (by first | exact HL.out | exact HL.out.on HC6.out | exact HL.out.on HC5.out | exact HL.out.on HC4.out | exact HL.out.on HC3.out | exact HL.out.on HC2.out | exact HL.out.on HC1.out | exact HL.out.on (HC1 _).out | exact HL.out.on HC0.out | exact HL.out.on hC5 | exact HL.out.on hC4 | exact HL.out.on hC3 | exact HL.out.on hC2 | exact HL.out.on hB1)).mono ?_
    rintro e w4 ⟨rfl, hB4⟩
    have HC4 := Lib.hid (bseq' HC3.out hB4)
    go_wp2_with fail
    go_ret
    exact ⟨rfl, HC4.out⟩
  · have hE2 : ∀ w, Laid w → Calls Tryd.prog 14 #[.agg (cellsP ⟨2, A, 0, 0, B, C, 4294967296, false⟩)] w fun e w' => e = .returned (.tuple #[.int .u64 (encW (bent ⟨2, A, 0, 0, B, C, 0, false⟩ 5)), .int .u16 1]) ∧ Below w.heap.size w w' := fun w L => HE20.out 5 w L
    generalize encW (bent ⟨2, A, 0, 0, B, C, 0, false⟩ 5) = y at *
    have HE2 := Lib.hid hE2
    clear hE2
    go_enter Tryd.func5, Tryd.ntmps5
    go_wp2_with fail
    refine (HCh.out _).mono ?_
    rintro e w1 ⟨rfl, hB1⟩
    have HP1 := Lib.hid ((PBox.new w1 (⟨2, A, 0, 0, B, C, 0, false⟩ : Pt)).on ((Below.refl _ _).alloc (Nat.le_refl _) (.cells (cellsP (⟨2, A, 0, 0, B, C, 4294967296, false⟩ : Pt)) 24)))
    have HQ1 := Lib.hid (PBox.new (w1.alloc (.cells (cellsP (⟨2, A, 0, 0, B, C, 0, false⟩ : Pt)) 24)) (⟨2, A, 0, 0, B, C, 4294967296, false⟩ : Pt))
    have HC1 : Hid (Below w.heap.size w ((w1.alloc (.cells (cellsP (⟨2, A, 0, 0, B, C, 0, false⟩ : Pt)) 24)).alloc (.cells (cellsP (⟨2, A, 0, 0, B, C, 4294967296, false⟩ : Pt)) 24))) := Lib.hid ((hB1.alloc hB1.size _).alloc (by have := hB1.size; simp; omega) _)
    rw [World.size_alloc] at HQ1
    unfold cellsP
    dsimp only
    obtain ⟨z0, z1, z2, z3, z4, z5, z6, z7⟩ := HP1.out.cells
    unfold cellsP at z0 z1 z2 z3 z4 z5 z6 z7
    dsimp only at z0 z1 z2 z3 z4 z5 z6 z7
    go_wp2_with fail
    refine (HE1.out _ (by first | exact HL.out | exact HL.out.on HC6.out | exact HL.out.on HC5.out | exact HL.out.on HC4.out | exact HL.out.on HC3.out | exact HL.out.on HC2.out | exact HL.out.on HC1.out | exact HL.out.on (HC1 _).out | exact HL.out.on HC0.out | exact HL.out.on hC5 | exact HL.out.on hC4 | exact HL.out.on hC3 | exact HL.out.on hC2 | exact HL.out.on hB1)).mono ?_
    rintro e w2 ⟨rfl, hB2⟩
    have HC2 := Lib.hid (bseq' HC1.out hB2)
    clear z0 z1 z2 z3 z4 z5 z6 z7
    obtain ⟨z0, z1, z2, z3, z4, z5, z6, z7⟩ := (HQ1.out.on hB2).cells
    dsimp only at z0 z1 z2 z3 z4 z5 z6 z7
    go_wp2_with fail
    refine (HE2.out _ (by first | exact HL.out | exact HL.out.on HC6.out | exact HL.out.on HC5.out | exact HL.out.on HC4.out | exact HL.out.on HC3.out | exact HL.out.on HC2.out | exact HL.out.on HC1.out | exact HL.out.on (HC1 _).out | exact HL.out.on HC0.out | exact HL.out.on hC5 | exact HL.out.on hC4 | exact HL.out.on hC3 | exact HL.out.on hC2 | exact HL.out.on hB1)).mono ?_
    rintro e w3 ⟨rfl, hB3⟩
    have HC3 := Lib.hid (bseq' HC2.out hB3)
    go_wp2_with fail
    refine (known_ptr HT.out _ (by first | exact HL.out | exact HL.out.on HC6.out | exact HL.out.on HC5.out | exact HL.out.on HC4.out | exact HL.out.on HC3.out | exact HL.out.on HC2.out | exact HL.out.on HC1.out | exact HL.out.on (HC1 _).out | exact HL.out.on HC0.out | exact HL.out.on hC5 | exact HL.out.on hC4 | exact HL.out.on hC3 | exact HL.out.on hC2 | exact HL.out.on hB1)).mono ?_
    rintro e w4 ⟨rfl, hB4⟩
    have HC4 := Lib.hid (bseq' HC3.out hB4)
    go_wp2_with fail
    go_ret
    exact ⟨rfl, HC4.out⟩

set_option maxRecDepth 100000 in
set_option maxHeartbeats 8000000 in
theorem fields_3 (T : PtrOK) (a b c k wh : Nat) (w : World) (A B : Int) (t : Bool) (hp : OkP ⟨3, A, 0, 0, 0, 0, B, t⟩) (hz : eqP ⟨3, A, 0, 0, 0, 0, B, t⟩ ⟨1, 0, 0, 0, 0, 0, 0, false⟩ = false) (m3 : (k : Int) % 3 = 2) (hwh : wh < 256)
    (hc : ∀ w, Calls Tryd.prog 9 #[.int .u32 a, .int .u32 b, .int .u32 c, .int .u8 3] w fun e w' => e = .returned (.agg (cellsP ⟨3, A, 0, 0, 0, 0, B, t⟩)) ∧ Below w.heap.size w w') (L : Laid w) :
    Calls Tryd.prog 5 #[.int .u32 a, .int .u32 b, .int .u32 c, .int .u8 k, .int .u8 wh] w fun e w' => e = .returned (.bool true) ∧ Below w.heap.size w w' := by
  have HL := Lib.hid L
  clear L
  have HT := Lib.hid T
  have HCh := Lib.hid hc
  have hE1 : ∀ w, Laid w → Calls Tryd.prog 14 #[.agg (cellsP ⟨3, A, 0, 0, 0, 0, B, t⟩)] w fun e w' => e = .returned (.tuple #[.int .u64 (encW ⟨3, A, 0, 0, 0, 0, B, t⟩), .int .u16 0]) ∧ Below w.heap.size w w' := fun w L => by
    have := T.enc ⟨3, A, 0, 0, 0, 0, B, t⟩ w (okp_in hp) L
    rwa [enc_yes hp] at this
  have hE2 : ∀ i w, Laid w → Calls Tryd.prog 14 #[.agg (cellsP (bent ⟨3, A, 0, 0, 0, 0, B, t⟩ i))] w fun e w' => e = .returned (.tuple #[.int .u64 (encW (bent ⟨3, A, 0, 0, 0, 0, B, t⟩ i)), .int .u16 1]) ∧ Below w.heap.size w w' := fun i w L => by
    have := T.enc (bent ⟨3, A, 0, 0, 0, 0, B, t⟩ i) w (bent_in (okp_in hp) i) L
    rwa [enc_no (bent_no (by dsimp only; omega) i)] at this
  generalize encW ⟨3, A, 0, 0, 0, 0, B, t⟩ = x at *
  have HE1 := Lib.hid hE1
  have HE20 := Lib.hid hE2
  have hne := fun w => run_eql_P w ⟨3, A, 0, 0, 0, 0, B, t⟩ ⟨1, 0, 0, 0, 0, 0, 0, false⟩
  rw [hz] at hne
  have hgd := fun w op x y xs ys => run_eqGuard_agg (P := Tryd.prog) w op 24 x y xs ys (by kernel_rfl)
  unfold cellsP at hne
  dsimp only at hne
  clear T hp hz hc hE1 hE2
  rcases (show (wh : Int) % 6 = 0 ∨ (wh : Int) % 6 = 1 ∨ (wh : Int) % 6 = 2 ∨ (wh : Int) % 6 = 3 ∨ (wh : Int) % 6 = 4 ∨ (wh : Int) % 6 = 5 by omega) with m6 | m6 | m6 | m6 | m6 | m6
  · have hE2 : ∀ w, Laid w → Calls Tryd.prog 14 #[.agg (cellsP ⟨3, -1, 0, 0, 0, 0, B, t⟩)] w fun e w' => e = .returned (.tuple #[.int .u64 (encW (bent ⟨3, A, 0, 0, 0, 0, B, t⟩ 0)), .int .u16 1]) ∧ Below w.heap.size w w' := fun w L => HE20.out 0 w L
    generalize encW (bent ⟨3, A, 0, 0, 0, 0, B, t⟩ 0) = y at *
    have HE2 := Lib.hid hE2
    clear hE2
    go_enter Tryd.func5, Tryd.ntmps5
    go_wp2_with fail
    refine (HCh.out _).mono ?_
    rintro e w1 ⟨rfl, hB1⟩
    have HP1 := Lib.hid ((PBox.new w1 (⟨3, A, 0, 0, 0, 0, B, t⟩ : Pt)).on ((Below.refl _ _).alloc (Nat.le_refl _) (.cells (cellsP (⟨3, -1, 0, 0, 0, 0, B, t⟩ : Pt)) 24)))
    have HQ1 := Lib.hid (PBox.new (w1.alloc (.cells (cellsP (⟨3, A, 0, 0, 0, 0, B, t⟩ : Pt)) 24)) (⟨3, -1, 0, 0, 0, 0, B, t⟩ : Pt))
    have HC1 : Hid (Below w.heap.size w ((w1.alloc (.cells (cellsP (⟨3, A, 0, 0, 0, 0, B, t⟩ : Pt)) 24)).alloc (.cells (cellsP (⟨3, -1, 0, 0, 0, 0, B, t⟩ : Pt)) 24))) := Lib.hid ((hB1.alloc hB1.size _).alloc (by have := hB1.size; simp; omega) _)
    rw [World.size_alloc] at HQ1
    unfold cellsP
    dsimp only
    obtain ⟨z0, z1, z2, z3, z4, z5, z6, z7⟩ := HP1.out.cells
    unfold cellsP at z0 z1 z2 z3 z4 z5 z6 z7
    dsimp only at z0 z1 z2 z3 z4 z5 z6 z7
    go_wp2_with fail
    refine (HE1.out _ (by first | exact HL.out | exact HL.out.on HC6.out | exact HL.out.on HC5.out | exact HL.out.on HC4.out | exact HL.out.on HC3.out | exact HL.out.on HC2.out | exact HL.out.on HC1.out | exact HL.out.on (HC1 _).out | exact HL.out.on HC0.out | exact HL.out.on hC5 | exact HL.out.on hC4 | exact HL.out.on hC3 | exact HL.out.on hC2 | exact HL.out.on hB1)).mono ?_
    rintro e w2 ⟨rfl, hB2⟩
    have HC2 := Lib.hid (bseq' HC1.out hB2)
    clear z0 z1 z2 z3 z4 z5 z6 z7
    obtain ⟨z0, z1, z2, z3, z4, z5, z6, z7⟩ := (HQ1.out.on hB2).cells
    dsimp only at z0 z1 z2 z3 z4 z5 z6 z7
    go_wp2_with fail
    refine (HE2.out _ (by first | exact HL.out | exact HL.out.on HC6.out | exact HL.out.on HC5.out | exact HL.out.on HC4.out | exact HL.out.on HC3.out | exact HL.out.on HC2.out | exact HL.out.on HC1.out | exact HL.out.on (HC1 _).out | exact HL.out.on HC0.out | exact HL.out.on hC5 | exact HL.out.on hC4 | exact HL.out.on hC3 | exact HL.out.on hC2 | exact HL.out.on hB1)).mono ?_
    rintro e w3 ⟨rfl, hB3⟩
    have HC3 := Lib.hid (bseq' HC2.out hB3)
    go_wp2_with fail
    refine (known_ptr HT.out _ (by first | exact HL.out | exact HL.out.on HC6.out | exact HL.out.on HC5.out | exact HL.out.on HC4.out | exact HL.out.on HC3.out | exact HL.out.on HC2.out | exact HL.out.on HC1.out | exact HL.out.on (HC1 _).out | exact HL.out.on HC0.out | exact HL.out.on hC5 | exact HL.out.on hC4 | exact HL.out.on hC3 | exact HL.out.on hC2 | exact HL.out.on hB1)).mono ?_
    rintro e w4 ⟨rfl, hB4⟩
    have HC4 := Lib.hid (bseq' HC3.out hB4)
    go_wp2_with fail
    go_ret
    exact ⟨rfl, HC4.out⟩
  · have hE2 : ∀ w, Laid w → Calls Tryd.prog 14 #[.agg (cellsP ⟨3, A, 65536, 0, 0, 0, B, t⟩)] w fun e w' => e = .returned (.tuple #[.int .u64 (encW (bent ⟨3, A, 0, 0, 0, 0, B, t⟩ 1)), .int .u16 1]) ∧ Below w.heap.size w w' := fun w L => HE20.out 1 w L
    generalize encW (bent ⟨3, A, 0, 0, 0, 0, B, t⟩ 1) = y at *
    have HE2 := Lib.hid hE2
    clear hE2
    go_enter Tryd.func5, Tryd.ntmps5
    go_wp2_with fail
    refine (HCh.out _).mono ?_
    rintro e w1 ⟨rfl, hB1⟩
    have HP1 := Lib.hid ((PBox.new w1 (⟨3, A, 0, 0, 0, 0, B, t⟩ : Pt)).on ((Below.refl _ _).alloc (Nat.le_refl _) (.cells (cellsP (⟨3, A, 65536, 0, 0, 0, B, t⟩ : Pt)) 24)))
    have HQ1 := Lib.hid (PBox.new (w1.alloc (.cells (cellsP (⟨3, A, 0, 0, 0, 0, B, t⟩ : Pt)) 24)) (⟨3, A, 65536, 0, 0, 0, B, t⟩ : Pt))
    have HC1 : Hid (Below w.heap.size w ((w1.alloc (.cells (cellsP (⟨3, A, 0, 0, 0, 0, B, t⟩ : Pt)) 24)).alloc (.cells (cellsP (⟨3, A, 65536, 0, 0, 0, B, t⟩ : Pt)) 24))) := Lib.hid ((hB1.alloc hB1.size _).alloc (by have := hB1.size; simp; omega) _)
    rw [World.size_alloc] at HQ1
    unfold cellsP
    dsimp only
    obtain ⟨z0, z1, z2, z3, z4, z5, z6, z7⟩ := HP1.out.cells
    unfold cellsP at z0 z1 z2 z3 z4 z5 z6 z7
    dsimp only at z0 z1 z2 z3 z4 z5 z6 z7
    go_wp2_with fail
    refine (HE1.out _ (by first | exact HL.out | exact HL.out.on HC6.out | exact HL.out.on HC5.out | exact HL.out.on HC4.out | exact HL.out.on HC3.out | exact HL.out.on HC2.out | exact HL.out.on HC1.out | exact HL.out.on (HC1 _).out | exact HL.out.on HC0.out | exact HL.out.on hC5 | exact HL.out.on hC4 | exact HL.out.on hC3 | exact HL.out.on hC2 | exact HL.out.on hB1)).mono ?_
    rintro e w2 ⟨rfl, hB2⟩
    have HC2 := Lib.hid (bseq' HC1.out hB2)
    clear z0 z1 z2 z3 z4 z5 z6 z7
    obtain ⟨z0, z1, z2, z3, z4, z5, z6, z7⟩ := (HQ1.out.on hB2).cells
    dsimp only at z0 z1 z2 z3 z4 z5 z6 z7
    go_wp2_with fail
    refine (HE2.out _ (by first | exact HL.out | exact HL.out.on HC6.out | exact HL.out.on HC5.out | exact HL.out.on HC4.out | exact HL.out.on HC3.out | exact HL.out.on HC2.out | exact HL.out.on HC1.out | exact HL.out.on (HC1 _).out | exact HL.out.on HC0.out | exact HL.out.on hC5 | exact HL.out.on hC4 | exact HL.out.on hC3 | exact HL.out.on hC2 | exact HL.out.on hB1)).mono ?_
    rintro e w3 ⟨rfl, hB3⟩
    have HC3 := Lib.hid (bseq' HC2.out hB3)
    go_wp2_with fail
    refine (known_ptr HT.out _ (by first | exact HL.out | exact HL.out.on HC6.out | exact HL.out.on HC5.out | exact HL.out.on HC4.out | exact HL.out.on HC3.out | exact HL.out.on HC2.out | exact HL.out.on HC1.out | exact HL.out.on (HC1 _).out | exact HL.out.on HC0.out | exact HL.out.on hC5 | exact HL.out.on hC4 | exact HL.out.on hC3 | exact HL.out.on hC2 | exact HL.out.on hB1)).mono ?_
    rintro e w4 ⟨rfl, hB4⟩
    have HC4 := Lib.hid (bseq' HC3.out hB4)
    go_wp2_with fail
    go_ret
    exact ⟨rfl, HC4.out⟩
  · have hE2 : ∀ w, Laid w → Calls Tryd.prog 14 #[.agg (cellsP ⟨3, A, 0, -1, 0, 0, B, t⟩)] w fun e w' => e = .returned (.tuple #[.int .u64 (encW (bent ⟨3, A, 0, 0, 0, 0, B, t⟩ 2)), .int .u16 1]) ∧ Below w.heap.size w w' := fun w L => HE20.out 2 w L
    generalize encW (bent ⟨3, A, 0, 0, 0, 0, B, t⟩ 2) = y at *
    have HE2 := Lib.hid hE2
    clear hE2
    go_enter Tryd.func5, Tryd.ntmps5
    go_wp2_with fail
    refine (HCh.out _).mono ?_
    rintro e w1 ⟨rfl, hB1⟩
    have HP1 := Lib.hid ((PBox.new w1 (⟨3, A, 0, 0, 0, 0, B, t⟩ : Pt)).on ((Below.refl _ _).alloc (Nat.le_refl _) (.cells (cellsP (⟨3, A, 0, -1, 0, 0, B, t⟩ : Pt)) 24)))
    have HQ1 := Lib.hid (PBox.new (w1.alloc (.cells (cellsP (⟨3, A, 0, 0, 0, 0, B, t⟩ : Pt)) 24)) (⟨3, A, 0, -1, 0, 0, B, t⟩ : Pt))
    have HC1 : Hid (Below w.heap.size w ((w1.alloc (.cells (cellsP (⟨3, A, 0, 0, 0, 0, B, t⟩ : Pt)) 24)).alloc (.cells (cellsP (⟨3, A, 0, -1, 0, 0, B, t⟩ : Pt)) 24))) := Lib.hid ((hB1.alloc hB1.size _).alloc (by have := hB1.size; simp; omega) _)
    rw [World.size_alloc] at HQ1
    unfold cellsP
    dsimp only
    obtain ⟨z0, z1, z2, z3, z4, z5, z6, z7⟩ := HP1.out.cells
    unfold cellsP at z0 z1 z2 z3 z4 z5 z6 z7
    dsimp only at z0 z1 z2 z3 z4 z5 z6 z7
    go_wp2_with fail
    refine (HE1.out _ (by first | exact HL.out | exact HL.out.on HC6.out | exact HL.out.on HC5.out | exact HL.out.on HC4.out | exact HL.out.on HC3.out | exact HL.out.on HC2.out | exact HL.out.on HC1.out | exact HL.out.on (HC1 _).out | exact HL.out.on HC0.out | exact HL.out.on hC5 | exact HL.out.on hC4 | exact HL.out.on hC3 | exact HL.out.on hC2 | exact HL.out.on hB1)).mono ?_
    rintro e w2 ⟨rfl, hB2⟩
    have HC2 := Lib.hid (bseq' HC1.out hB2)
    clear z0 z1 z2 z3 z4 z5 z6 z7
    obtain ⟨z0, z1, z2, z3, z4, z5, z6, z7⟩ := (HQ1.out.on hB2).cells
    dsimp only at z0 z1 z2 z3 z4 z5 z6 z7
    go_wp2_with fail
    refine (HE2.out _ (by first | exact HL.out | exact HL.out.on HC6.out | exact HL.out.on HC5.out | exact HL.out.on HC4.out | exact HL.out.on HC3.out | exact HL.out.on HC2.out | exact HL.out.on HC1.out | exact HL.out.on (HC1 _).out | exact HL.out.on HC0.out | exact HL.out.on hC5 | exact HL.out.on hC4 | exact HL.out.on hC3 | exact HL.out.on hC2 | exact HL.out.on hB1)).mono ?_
    rintro e w3 ⟨rfl, hB3⟩
    have HC3 := Lib.hid (bseq' HC2.out hB3)
    go_wp2_with fail
    refine (known_ptr HT.out _ (by first | exact HL.out | exact HL.out.on HC6.out | exact HL.out.on HC5.out | exact HL.out.on HC4.out | exact HL.out.on HC3.out | exact HL.out.on HC2.out | exact HL.out.on HC1.out | exact HL.out.on (HC1 _).out | exact HL.out.on HC0.out | exact HL.out.on hC5 | exact HL.out.on hC4 | exact HL.out.on hC3 | exact HL.out.on hC2 | exact HL.out.on hB1)).mono ?_
    rintro e w4 ⟨rfl, hB4⟩
    have HC4 := Lib.hid (bseq' HC3.out hB4)
    go_wp2_with fail
    go_ret
    exact ⟨rfl, HC4.out⟩
  · have hE2 : ∀ w, Laid w → Calls Tryd.prog 14 #[.agg (cellsP ⟨3, A, 0, 0, 8, 0, B, t⟩)] w fun e w' => e = .returned (.tuple #[.int .u64 (encW (bent ⟨3, A, 0, 0, 0, 0, B, t⟩ 3)), .int .u16 1]) ∧ Below w.heap.size w w' := fun w L => HE20.out 3 w L
    generalize encW (bent ⟨3, A, 0, 0, 0, 0, B, t⟩ 3) = y at *
    have HE2 := Lib.hid hE2
    clear hE2
    go_enter Tryd.func5, Tryd.ntmps5
    go_wp2_with fail
    refine (HCh.out _).mono ?_
    rintro e w1 ⟨rfl, hB1⟩
    have HP1 := Lib.hid ((PBox.new w1 (⟨3, A, 0, 0, 0, 0, B, t⟩ : Pt)).on ((Below.refl _ _).alloc (Nat.le_refl _) (.cells (cellsP (⟨3, A, 0, 0, 8, 0, B, t⟩ : Pt)) 24)))
    have HQ1 := Lib.hid (PBox.new (w1.alloc (.cells (cellsP (⟨3, A, 0, 0, 0, 0, B, t⟩ : Pt)) 24)) (⟨3, A, 0, 0, 8, 0, B, t⟩ : Pt))
    have HC1 : Hid (Below w.heap.size w ((w1.alloc (.cells (cellsP (⟨3, A, 0, 0, 0, 0, B, t⟩ : Pt)) 24)).alloc (.cells (cellsP (⟨3, A, 0, 0, 8, 0, B, t⟩ : Pt)) 24))) := Lib.hid ((hB1.alloc hB1.size _).alloc (by have := hB1.size; simp; omega) _)
    rw [World.size_alloc] at HQ1
    unfold cellsP
    dsimp only
    obtain ⟨z0, z1, z2, z3, z4, z5, z6, z7⟩ := HP1.out.cells
    unfold cellsP at z0 z1 z2 z3 z4 z5 z6 z7
    dsimp only at z0 z1 z2 z3 z4 z5 z6 z7
    go_wp2_with fail
    refine (HE1.out _ (by first | exact HL.out | exact HL.out.on HC6.out | exact HL.out.on HC5.out | exact HL.out.on HC4.out | exact HL.out.on HC3.out | exact HL.out.on HC2.out | exact HL.out.on HC1.out | exact HL.out.on (HC1 _).out | exact HL.out.on HC0.out | exact HL.out.on hC5 | exact HL.out.on hC4 | exact HL.out.on hC3 | exact HL.out.on hC2 | exact HL.out.on hB1)).mono ?_
    rintro e w2 ⟨rfl, hB2⟩
    have HC2 := Lib.hid (bseq' HC1.out hB2)
    clear z0 z1 z2 z3 z4 z5 z6 z7
    obtain ⟨z0, z1, z2, z3, z4, z5, z6, z7⟩ := (HQ1.out.on hB2).cells
    dsimp only at z0 z1 z2 z3 z4 z5 z6 z7
    go_wp2_with fail
    refine (HE2.out _ (by first | exact HL.out | exact HL.out.on HC6.out | exact HL.out.on HC5.out | exact HL.out.on HC4.out | exact HL.out.on HC3.out | exact HL.out.on HC2.out | exact HL.out.on HC1.out | exact HL.out.on (HC1 _).out | exact HL.out.on HC0.out | exact HL.out.on hC5 | exact HL.out.on hC4 | exact HL.out.on hC3 | exact HL.out.on hC2 | exact HL.out.on hB1)).mono ?_
    rintro e w3 ⟨rfl, hB3⟩
    have HC3 := Lib.hid (bseq' HC2.out hB3)
    go_wp2_with fail
    refine (known_ptr HT.out _ (by first | exact HL.out | exact HL.out.on HC6.out | exact HL.out.on HC5.out | exact HL.out.on HC4.out | exact HL.out.on HC3.out | exact HL.out.on HC2.out | exact HL.out.on HC1.out | exact HL.out.on (HC1 _).out | exact HL.out.on HC0.out | exact HL.out.on hC5 | exact HL.out.on hC4 | exact HL.out.on hC3 | exact HL.out.on hC2 | exact HL.out.on hB1)).mono ?_
    rintro e w4 ⟨rfl, hB4⟩
    have HC4 := Lib.hid (bseq' HC3.out hB4)
    go_wp2_with fail
    go_ret
    exact ⟨rfl, HC4.out⟩
  · have hE2 : ∀ w, Laid w → Calls Tryd.prog 14 #[.agg (cellsP ⟨3, A, 0, 0, 0, 536870912, B, t⟩)] w fun e w' => e = .returned (.tuple #[.int .u64 (encW (bent ⟨3, A, 0, 0, 0, 0, B, t⟩ 4)), .int .u16 1]) ∧ Below w.heap.size w w' := fun w L => HE20.out 4 w L
    generalize encW (bent ⟨3, A, 0, 0, 0, 0, B, t⟩ 4) = y at *
    have HE2 := Lib.hid hE2
    clear hE2
    go_enter Tryd.func5, Tryd.ntmps5
    go_wp2_with fail
    refine (HCh.out _).mono ?_
    rintro e w1 ⟨rfl, hB1⟩
    have HP1 := Lib.hid ((PBox.new w1 (⟨3, A, 0, 0, 0, 0, B, t⟩ : Pt)).on ((Below.refl _ _).alloc (Nat.le_refl _) (.cells (cellsP (⟨3, A, 0, 0, 0, 536870912, B, t⟩ : Pt)) 24)))
    have HQ1 := Lib.hid (PBox.new (w1.alloc (.cells (cellsP (⟨3, A, 0, 0, 0, 0, B, t⟩ : Pt)) 24)) (⟨3, A, 0, 0, 0, 536870912, B, t⟩ : Pt))
    have HC1 : Hid (Below w.heap.size w ((w1.alloc (.cells (cellsP (⟨3, A, 0, 0, 0, 0, B, t⟩ : Pt)) 24)).alloc (.cells (cellsP (⟨3, A, 0, 0, 0, 536870912, B, t⟩ : Pt)) 24))) := Lib.hid ((hB1.alloc hB1.size _).alloc (by have := hB1.size; simp; omega) _)
    rw [World.size_alloc] at HQ1
    unfold cellsP
    dsimp only
    obtain ⟨z0, z1, z2, z3, z4, z5, z6, z7⟩ := HP1.out.cells
    unfold cellsP at z0 z1 z2 z3 z4 z5 z6 z7
    dsimp only at z0 z1 z2 z3 z4 z5 z6 z7
    go_wp2_with fail
    refine (HE1.out _ (by first | exact HL.out | exact HL.out.on HC6.out | exact HL.out.on HC5.out | exact HL.out.on HC4.out | exact HL.out.on HC3.out | exact HL.out.on HC2.out | exact HL.out.on HC1.out | exact HL.out.on (HC1 _).out | exact HL.out.on HC0.out | exact HL.out.on hC5 | exact HL.out.on hC4 | exact HL.out.on hC3 | exact HL.out.on hC2 | exact HL.out.on hB1)).mono ?_
    rintro e w2 ⟨rfl, hB2⟩
    have HC2 := Lib.hid (bseq' HC1.out hB2)
    clear z0 z1 z2 z3 z4 z5 z6 z7
    obtain ⟨z0, z1, z2, z3, z4, z5, z6, z7⟩ := (HQ1.out.on hB2).cells
    dsimp only at z0 z1 z2 z3 z4 z5 z6 z7
    go_wp2_with fail
    refine (HE2.out _ (by first | exact HL.out | exact HL.out.on HC6.out | exact HL.out.on HC5.out | exact HL.out.on HC4.out | exact HL.out.on HC3.out | exact HL.out.on HC2.out | exact HL.out.on HC1.out | exact HL.out.on (HC1 _).out | exact HL.out.on HC0.out | exact HL.out.on hC5 | exact HL.out.on hC4 | exact HL.out.on hC3 | exact HL.out.on hC2 | exact HL.out.on hB1)).mono ?_
    rintro e w3 ⟨rfl, hB3⟩
    have HC3 := Lib.hid (bseq' HC2.out hB3)
    go_wp2_with fail
    refine (known_ptr HT.out _ (by first | exact HL.out | exact HL.out.on HC6.out | exact HL.out.on HC5.out | exact HL.out.on HC4.out | exact HL.out.on HC3.out | exact HL.out.on HC2.out | exact HL.out.on HC1.out | exact HL.out.on (HC1 _).out | exact HL.out.on HC0.out | exact HL.out.on hC5 | exact HL.out.on hC4 | exact HL.out.on hC3 | exact HL.out.on hC2 | exact HL.out.on hB1)).mono ?_
    rintro e w4 ⟨rfl, hB4⟩
    have HC4 := Lib.hid (bseq' HC3.out hB4)
    go_wp2_with fail
    go_ret
    exact ⟨rfl, HC4.out⟩
  · have hE2 : ∀ w, Laid w → Calls Tryd.prog 14 #[.agg (cellsP ⟨3, A, 0, 0, 0, 0, 4294967296, t⟩)] w fun e w' => e = .returned (.tuple #[.int .u64 (encW (bent ⟨3, A, 0, 0, 0, 0, B, t⟩ 5)), .int .u16 1]) ∧ Below w.heap.size w w' := fun w L => HE20.out 5 w L
    generalize encW (bent ⟨3, A, 0, 0, 0, 0, B, t⟩ 5) = y at *
    have HE2 := Lib.hid hE2
    clear hE2
    go_enter Tryd.func5, Tryd.ntmps5
    go_wp2_with fail
    refine (HCh.out _).mono ?_
    rintro e w1 ⟨rfl, hB1⟩
    have HP1 := Lib.hid ((PBox.new w1 (⟨3, A, 0, 0, 0, 0, B, t⟩ : Pt)).on ((Below.refl _ _).alloc (Nat.le_refl _) (.cells (cellsP (⟨3, A, 0, 0, 0, 0, 4294967296, t⟩ : Pt)) 24)))
    have HQ1 := Lib.hid (PBox.new (w1.alloc (.cells (cellsP (⟨3, A, 0, 0, 0, 0, B, t⟩ : Pt)) 24)) (⟨3, A, 0, 0, 0, 0, 4294967296, t⟩ : Pt))
    have HC1 : Hid (Below w.heap.size w ((w1.alloc (.cells (cellsP (⟨3, A, 0, 0, 0, 0, B, t⟩ : Pt)) 24)).alloc (.cells (cellsP (⟨3, A, 0, 0, 0, 0, 4294967296, t⟩ : Pt)) 24))) := Lib.hid ((hB1.alloc hB1.size _).alloc (by have := hB1.size; simp; omega) _)
    rw [World.size_alloc] at HQ1
    unfold cellsP
    dsimp only
    obtain ⟨z0, z1, z2, z3, z4, z5, z6, z7⟩ := HP1.out.cells
    unfold cellsP at z0 z1 z2 z3 z4 z5 z6 z7
    dsimp only at z0 z1 z2 z3 z4 z5 z6 z7
    go_wp2_with fail
    refine (HE1.out _ (by first | exact HL.out | exact HL.out.on HC6.out | exact HL.out.on HC5.out | exact HL.out.on HC4.out | exact HL.out.on HC3.out | exact HL.out.on HC2.out | exact HL.out.on HC1.out | exact HL.out.on (HC1 _).out | exact HL.out.on HC0.out | exact HL.out.on hC5 | exact HL.out.on hC4 | exact HL.out.on hC3 | exact HL.out.on hC2 | exact HL.out.on hB1)).mono ?_
    rintro e w2 ⟨rfl, hB2⟩
    have HC2 := Lib.hid (bseq' HC1.out hB2)
    clear z0 z1 z2 z3 z4 z5 z6 z7
    obtain ⟨z0, z1, z2, z3, z4, z5, z6, z7⟩ := (HQ1.out.on hB2).cells
    dsimp only at z0 z1 z2 z3 z4 z5 z6 z7
    go_wp2_with fail
    refine (HE2.out _ (by first | exact HL.out | exact HL.out.on HC6.out | exact HL.out.on HC5.out | exact HL.out.on HC4.out | exact HL.out.on HC3.out | exact HL.out.on HC2.out | exact HL.out.on HC1.out | exact HL.out.on (HC1 _).out | exact HL.out.on HC0.out | exact HL.out.on hC5 | exact HL.out.on hC4 | exact HL.out.on hC3 | exact HL.out.on hC2 | exact HL.out.on hB1)).mono ?_
    rintro e w3 ⟨rfl, hB3⟩
    have HC3 := Lib.hid (bseq' HC2.out hB3)
    go_wp2_with fail
    refine (known_ptr HT.out _ (by first | exact HL.out | exact HL.out.on HC6.out | exact HL.out.on HC5.out | exact HL.out.on HC4.out | exact HL.out.on HC3.out | exact HL.out.on HC2.out | exact HL.out.on HC1.out | exact HL.out.on (HC1 _).out | exact HL.out.on HC0.out | exact HL.out.on hC5 | exact HL.out.on hC4 | exact HL.out.on hC3 | exact HL.out.on hC2 | exact HL.out.on hB1)).mono ?_
    rintro e w4 ⟨rfl, hB4⟩
    have HC4 := Lib.hid (bseq' HC3.out hB4)
    go_wp2_with fail
    go_ret
    exact ⟨rfl, HC4.out⟩

set_option maxRecDepth 100000 in
set_option maxHeartbeats 4000000 in
theorem pfields_walk (T : PtrOK) (a b c k wh : Nat) (w : World) (ha : a < 4294967296) (hb : b < 4294967296) (hc : c < 4294967296) (hwh : wh < 256) (L : Laid w) :
    Calls Tryd.prog 5 #[.int .u32 a, .int .u32 b, .int .u32 c, .int .u8 k, .int .u8 wh] w fun e w' => e = .returned (.bool true) ∧ Below w.heap.size w w' := by
  have HL := Lib.hid L
  clear L
  rcases (show (k : Int) % 3 = 0 ∨ (k : Int) % 3 = 1 ∨ (k : Int) % 3 = 2 by omega) with m3 | m3 | m3
  · have hch := fun w => cho_any a b c 1 w (by omega) (by omega) (by omega) (by omega) (by omega) (by omega) (by omega) (by omega)
    rw [show bendP (a : Int) b c 1 (choP a b c 1) = ⟨1, (a : Int) % 1073741824 - 536870912, (b : Int) % 65536, (c : Int) % 65536, 0, 0, 0, false⟩ by unfold bendP choP; rw [if_neg (by decide), if_pos (by decide)]] at hch
    by_cases hz : (a : Int) % 1073741824 - 536870912 = 0 ∧ (b : Int) % 65536 = 0 ∧ (c : Int) % 65536 = 0
    · obtain ⟨z0, z1, z2⟩ := hz
      rw [z0, z1, z2] at hch
      have HT := Lib.hid T
      have HCh := Lib.hid hch
      have hne := fun w => run_eql_P w ⟨1, 0, 0, 0, 0, 0, 0, false⟩ ⟨1, 0, 0, 0, 0, 0, 0, false⟩
      rw [show eqP ⟨1, 0, 0, 0, 0, 0, 0, false⟩ ⟨1, 0, 0, 0, 0, 0, 0, false⟩ = true by decide] at hne
      have hgd := fun w op x y xs ys => run_eqGuard_agg (P := Tryd.prog) w op 24 x y xs ys (by kernel_rfl)
      unfold cellsP at hne
      dsimp only at hne
      clear T hch z0 z1 z2
      go_enter Tryd.func5, Tryd.ntmps5
      go_wp2_with fail
      refine (HCh.out _).mono ?_
      rintro e w1 ⟨rfl, hB1⟩
      have HC1 : ∀ cs, Hid (Below w.heap.size w (w1.alloc (.cells cs 24))) := fun cs => Lib.hid (hB1.alloc hB1.size _)
      unfold cellsP
      dsimp only
      go_wp2_with fail
      refine (known_ptr HT.out _ (by first | exact HL.out | exact HL.out.on HC6.out | exact HL.out.on HC5.out | exact HL.out.on HC4.out | exact HL.out.on HC3.out | exact HL.out.on HC2.out | exact HL.out.on HC1.out | exact HL.out.on (HC1 _).out | exact HL.out.on HC0.out | exact HL.out.on hC5 | exact HL.out.on hC4 | exact HL.out.on hC3 | exact HL.out.on hC2 | exact HL.out.on hB1)).mono ?_
      rintro e w2 ⟨rfl, hB2⟩
      have HC2 := Lib.hid (bseq' (HC1 _).out hB2)
      go_wp2_with fail
      go_ret
      exact ⟨rfl, HC2.out⟩
    · exact fields_1 T a b c k wh w _ _ _ (.inr (.inl ⟨rfl, by dsimp only; omega, by dsimp only; omega, by dsimp only; omega, rfl, rfl, rfl, rfl, hz⟩)) (eqP_no.2 (fun e => hz ⟨congrArg Pt.off e, congrArg Pt.data e, congrArg Pt.ptrs e⟩)) m3 hwh hch HL.out
  · have hch := fun w => cho_any a b c 2 w (by omega) (by omega) (by omega) (by omega) (by omega) (by omega) (by omega) (by omega)
    rw [show bendP (a : Int) b c 2 (choP a b c 2) = ⟨2, (a : Int) % 1073741824 - 536870912, 0, 0, (b : Int) % 8, (c : Int) % 536870912, 0, false⟩ by unfold bendP choP; rw [if_neg (by decide), if_neg (by decide), if_pos (by decide)]] at hch
    exact fields_2 T a b c k wh w _ _ _ (.inr (.inr (.inl ⟨rfl, by dsimp only; omega, rfl, rfl, by dsimp only; omega, by dsimp only; omega, rfl, rfl⟩))) (eqP_no.2 (fun e => absurd (congrArg Pt.kind e) (by simp))) m3 hwh hch HL.out
  · have hch := fun w => cho_any a b c 3 w (by omega) (by omega) (by omega) (by omega) (by omega) (by omega) (by omega) (by omega)
    rw [show bendP (a : Int) b c 3 (choP a b c 3) = ⟨3, (a : Int) % 536870912, 0, 0, 0, 0, b, (c : Int) % 2 == 1⟩ by unfold bendP choP; rw [if_neg (by decide), if_neg (by decide), if_neg (by decide), if_pos (by decide)]] at hch
    exact fields_3 T a b c k wh w _ _ _ (.inr (.inr (.inr ⟨rfl, by dsimp only; omega, rfl, rfl, rfl, rfl, by dsimp only; omega⟩))) (eqP_no.2 (fun e => absurd (congrArg Pt.kind e) (by simp))) m3 hwh hch HL.out

end Go.Proofs.YtknmbohokmeidaaDoor
